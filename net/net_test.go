package net

import (
	"maps"
	"math"
	"math/rand"
	"reflect"
	"slices"
	"testing"

	"mulligan/api"
	"mulligan/event"
	"mulligan/state"
)

// of is an event by its six numbers.
func of(kind, a, b, c, d, e int) api.Event {
	return api.Event{Kind: kind, A: a, B: b, C: c, D: d, E: e}
}

// apart is a state of memory of its own, without layer 10.
func apart(s api.State) api.State {
	s.Objects = slices.Clone(s.Objects)
	for zone := range s.Lists {
		s.Lists[zone] = slices.Clone(s.Lists[zone])
	}
	return s
}

// same tells whether two states are the same, without layer 10.
func same(a, b api.State) bool {
	for zone := range a.Lists {
		if !slices.Equal(a.Lists[zone], b.Lists[zone]) {
			return false
		}
	}
	return slices.Equal(a.Objects, b.Objects) && a.Players == b.Players && a.Game == b.Game
}

// standing is the state of objects, each of which stands in the list that it says.
func standing(objects ...api.Object) api.State {
	s := api.State{Objects: objects}
	for id, o := range objects {
		s.Lists[o[api.FZone]] = append(s.Lists[o[api.FZone]], id)
	}
	return s
}

// small is a right state: three cards in a hand, one on the field, two that are gone.
func small() api.State {
	s := standing(
		api.Object{api.FCard: 10, api.FZone: 2},
		api.Object{api.FCard: 11, api.FZone: 2, api.FKnows: 1},
		api.Object{api.FCard: 12, api.FZone: 2},
		api.Object{api.FCard: 70, api.FZone: 8, api.FTapped: 1, api.FPower: -4},
		api.Object{api.FCard: 119, api.FZone: 10, api.FKind: 1, api.FKnows: 3},
		api.Object{api.FCard: 119, api.FOwner: 1, api.FControl: 1, api.FZone: 10, api.FKind: 2, api.FKnows: 3},
	)
	s.Players = [2][9]int{{20, 1, 2, 3, 4, 5, 6, 1, 0}, {-7, 0, 0, 0, 0, 0, 0, 0, 1}}
	s.Game = [7]int{9, 1, 5, 1, 1, 40, 0}
	return s
}

// many is a state of so many objects, all of which are gone.
func many(count int) api.State {
	var objects []api.Object
	for range count {
		objects = append(objects, api.Object{api.FCard: 3, api.FZone: 10, api.FKnows: 3})
	}
	return standing(objects...)
}

// deeds are events of each kind that may be done on the small state, one behind the other.
func deeds() []api.Event {
	return []api.Event{
		of(3, 0, 0, 20, 17, 0),
		of(1, 1, 2, 1, 8, 1),
		of(2, 1, 4, 0, 1, 0),
		of(0, 65, 1, 2, 0, 0),
		of(2, 6, 15, 0, 4, 0),
		of(1, 6, 10, 2, 9, 0),
		of(4, 0, 5, 40, 41, 0),
		of(3, 0, 0, 17, 21, 0),
		of(2, 1, 4, 1, 0, 0),
		of(1, 6, 9, 0, 10, 2),
		of(2, 6, 15, 4, 0, 0),
		of(5, 65, 1, 2, 0, 0),
		of(5, 119, 1, 2, 0, 0),
		of(4, 0, 5, 41, 42, 0),
		of(1, 0, 2, 0, 2, 1),
	}
}

// behindDeeds is the small state behind the deeds, written out by hand.
func behindDeeds() api.State {
	s := standing(
		api.Object{api.FCard: 10, api.FZone: 2},
		api.Object{api.FCard: 11, api.FZone: 8, api.FKnows: 1},
		api.Object{api.FCard: 12, api.FZone: 2},
		api.Object{api.FCard: 70, api.FZone: 8, api.FTapped: 1, api.FPower: -4},
		api.Object{api.FCard: 119, api.FZone: 10, api.FKind: 1, api.FKnows: 3},
	)
	s.Lists[2], s.Lists[8] = []int{2, 0}, []int{3, 1}
	s.Players = [2][9]int{{21, 1, 2, 3, 4, 5, 6, 1, 0}, {-7, 0, 0, 0, 0, 0, 0, 0, 1}}
	s.Game = [7]int{9, 1, 5, 1, 1, 42, 0}
	return s
}

// reckonedRun is what Run is to answer: layer 12, event by event.
func reckonedRun(s api.State, list []api.Event) (api.State, int, error) {
	s = apart(s)
	for i := range list {
		next, err := event.Apply(s, list[i])
		if err != nil {
			return api.State{}, i, err
		}
		s = next
	}
	return s, len(list), nil
}

// reckonedInvert is what Invert is to answer.
func reckonedInvert(list []api.Event) []api.Event {
	var opposites []api.Event
	for i := len(list) - 1; i >= 0; i-- {
		opposites = append(opposites, event.Invert(list[i]))
	}
	return opposites
}

// reckonedNet is what Net is to answer, by the chapter's words, and event by event held against each other.
func reckonedNet(list []api.Event) []api.Event {
	sets := func(e api.Event) bool { return e.Kind == 2 || e.Kind == 3 || e.Kind == 4 }
	makes := func(e api.Event) bool { return e.Kind == 0 || e.Kind == 5 }
	alike := func(a, b api.Event) bool { return sets(a) && a.Kind == b.Kind && a.A == b.A && a.B == b.B }
	var net []api.Event
	for from := 0; from <= len(list); {
		to := from
		for to < len(list) && !makes(list[to]) {
			to++
		}
		span := list[from:to]
		for _, e := range span {
			if !sets(e) {
				net = append(net, e)
			}
		}
		for i, e := range span {
			if !sets(e) || slices.ContainsFunc(span[:i], func(other api.Event) bool { return alike(e, other) }) {
				continue
			}
			for _, other := range span[i:] {
				if alike(e, other) {
					e.D = other.D
				}
			}
			if e.C != e.D {
				net = append(net, e)
			}
		}
		if to < len(list) {
			net = append(net, list[to])
		}
		from = to + 1
	}
	return net
}

// reckonedSpans is what Spans is to answer.
func reckonedSpans(list []api.Event) int {
	return 1 + len(slices.DeleteFunc(slices.Clone(list), func(e api.Event) bool { return e.Kind != 0 && e.Kind != 5 }))
}

// reckonedTouches is what Touches is to answer.
func reckonedTouches(list []api.Event) map[[3]int]int {
	times := map[[3]int]int{}
	for _, e := range list {
		if e.Kind >= 2 && e.Kind <= 4 {
			times[[3]int{e.Kind, e.A, e.B}]++
		}
	}
	return times
}

// checkRun holds Run and Undo of events against the reckoning; it answers the state behind them.
func checkRun(t *testing.T, s api.State, list []api.Event) (api.State, int, error) {
	t.Helper()
	held, events := apart(s), slices.Clone(list)
	want, number, wrong := reckonedRun(s, list)
	behind, ran, err := Run(s, list)
	if err != wrong || ran != number || !same(behind, want) || err != nil && !reflect.DeepEqual(behind, api.State{}) {
		t.Fatalf("Run %v: %v %v, not %v %v: %v, not %v", list, ran, err, number, wrong, behind, want)
	}
	before, number, wrong := reckonedRun(s, reckonedInvert(list))
	ahead, undone, err := Undo(s, list)
	if err != wrong || undone != number || !same(ahead, before) || err != nil && !reflect.DeepEqual(ahead, api.State{}) {
		t.Fatalf("Undo %v: %v %v, not %v %v: %v, not %v", list, undone, err, number, wrong, ahead, before)
	}
	if !same(s, held) || !slices.Equal(list, events) {
		t.Fatalf("%v: what was handed in was changed", list)
	}
	return Run(s, list)
}

// checkList holds what is told of events alone against the reckonings.
func checkList(t *testing.T, list []api.Event) {
	t.Helper()
	held := slices.Clone(list)
	if got, want := Net(list), reckonedNet(list); !slices.Equal(got, want) {
		t.Fatalf("Net %v: %v, not %v", list, got, want)
	}
	if got, want := Invert(list), reckonedInvert(list); !slices.Equal(got, want) {
		t.Fatalf("Invert %v: %v, not %v", list, got, want)
	}
	if got, want := Spans(list), reckonedSpans(list); got != want {
		t.Fatalf("Spans %v: %v, not %v", list, got, want)
	}
	if got, want := Touches(list), reckonedTouches(list); !maps.Equal(got, want) {
		t.Fatalf("Touches %v: %v, not %v", list, got, want)
	}
	if !slices.Equal(list, held) {
		t.Fatalf("%v: what was handed in was changed", held)
	}
	net := Net(list)
	if again := Net(net); !slices.Equal(again, net) {
		t.Fatalf("Net %v: the net of %v is %v", list, net, again)
	}
	if Spans(net) != Spans(list) {
		t.Fatalf("Net %v: %v has other spans", list, net)
	}
}

// checkThereAndBack asks of events that may be run that they may be undone, and their net run, to the same state.
func checkThereAndBack(t *testing.T, s api.State, list []api.Event) {
	t.Helper()
	behind, ran, err := checkRun(t, s, list)
	if err != nil || ran != len(list) {
		t.Fatalf("Run %v: %v %v", list, ran, err)
	}
	if back, undone, err := Undo(behind, list); err != nil || undone != len(list) || !same(back, s) {
		t.Fatalf("Undo %v: %v %v %v, not %v", list, undone, err, back, s)
	}
	if back, _, err := Run(behind, Invert(list)); err != nil || !same(back, s) {
		t.Fatalf("Run of Invert %v: %v %v, not %v", list, err, back, s)
	}
	net := Net(list)
	if there, ran, err := Run(s, net); err != nil || ran != len(net) || !same(there, behind) {
		t.Fatalf("Run of Net %v: %v %v %v, not %v", list, ran, err, there, behind)
	}
	if back, undone, err := Undo(behind, net); err != nil || undone != len(net) || !same(back, s) {
		t.Fatalf("Undo of Net %v: %v %v %v, not %v", list, undone, err, back, s)
	}
}

// P13.1: the state behind events of each kind, written out, and how many there are.
func TestRun(t *testing.T) {
	behind, ran, err := Run(small(), deeds())
	if err != nil || ran != 15 || !same(behind, behindDeeds()) {
		t.Error(ran, err, behind)
	}
	for _, none := range [][]api.Event{nil, {}} {
		if behind, ran, err := Run(small(), none); err != nil || ran != 0 || !same(behind, small()) {
			t.Error(ran, err, behind)
		}
		if behind, ran, err := Run(api.State{}, none); err != nil || ran != 0 || !same(behind, api.State{}) {
			t.Error(ran, err, behind)
		}
	}
	behind, ran, err = Run(small(), []api.Event{of(3, 1, 0, -7, 5, 0)})
	want := small()
	want.Players[1][0] = 5
	if err != nil || ran != 1 || !same(behind, want) {
		t.Error(ran, err, behind)
	}
	for count := range len(deeds()) + 1 {
		if _, ran, err := checkRun(t, small(), deeds()[:count]); err != nil || ran != count {
			t.Error(count, ran, err)
		}
	}
}

// P13.1: the first error is told, beside the zero state and how many were run ahead of it.
func TestRunWrong(t *testing.T) {
	for i, c := range []struct {
		s    api.State
		list []api.Event
		ran  int
		want error
	}{
		{small(), []api.Event{of(6, 0, 0, 0, 0, 0)}, 0, api.ErrKind},
		{small(), []api.Event{of(-1, 0, 0, 0, 0, 0), of(0, 120, 0, 0, 0, 0)}, 0, api.ErrKind},
		{small(), []api.Event{of(0, 0, 0, 0, 1, 0)}, 0, api.ErrForm},
		{small(), []api.Event{of(3, 0, 0, 20, 17, 0), of(4, 1, 0, 9, 10, 0)}, 1, api.ErrForm},
		{small(), []api.Event{of(3, 0, 0, 20, 17, 0), of(3, 0, 0, 17, 1<<30+1, 0)}, 1, api.ErrRange},
		{small(), []api.Event{of(1, 0, 2, 0, 8, 2)}, 0, api.ErrRange},
		{small(), []api.Event{of(1, 0, 2, 0, 8, 1), of(1, 1, 2, 0, 8, 3)}, 1, api.ErrRange},
		{small(), []api.Event{of(2, 6, 0, 0, 1, 0)}, 0, api.ErrNone},
		{small(), []api.Event{of(0, 3, 0, 0, 0, 0), of(2, 6, 4, 0, 1, 0), of(2, 7, 4, 0, 1, 0)}, 2, api.ErrNone},
		{small(), []api.Event{of(5, 119, 1, 2, 0, 0), of(1, 5, 10, 1, 9, 0)}, 1, api.ErrNone},
		{small(), []api.Event{of(3, 0, 0, 20, 17, 0), of(3, 0, 0, 20, 17, 0)}, 1, api.ErrState},
		{small(), []api.Event{of(3, 0, 0, 20, 17, 0), of(3, 0, 0, 17, 16, 0), of(3, 0, 0, 17, 16, 0), of(6, 0, 0, 0, 0, 0)}, 2, api.ErrState},
		{small(), []api.Event{of(3, 0, 0, 20, 17, 0), of(6, 0, 0, 0, 0, 0), of(3, 0, 0, 99, 16, 0)}, 1, api.ErrKind},
		{small(), []api.Event{of(5, 119, 1, 2, 0, 0), of(5, 119, 1, 2, 0, 0)}, 1, api.ErrState},
		{api.State{}, []api.Event{of(5, 0, 0, 0, 0, 0)}, 0, api.ErrState},
		{many(398), []api.Event{of(0, 0, 0, 0, 0, 0), of(0, 0, 0, 0, 0, 0), of(0, 0, 0, 0, 0, 0)}, 2, api.ErrFull},
		{many(400), []api.Event{of(0, 0, 0, 0, 0, 0)}, 0, api.ErrFull},
		{many(400), []api.Event{of(5, 3, 0, 0, 0, 0), of(0, 0, 0, 0, 0, 0), of(0, 0, 0, 0, 0, 0)}, 2, api.ErrFull},
	} {
		behind, ran, err := Run(c.s, c.list)
		if err != c.want || ran != c.ran || !reflect.DeepEqual(behind, api.State{}) {
			t.Error(i, behind, ran, err)
		}
		checkRun(t, c.s, c.list)
	}
	for place := range deeds() {
		list := deeds()
		list[place] = of(9, 0, 0, 0, 0, 0)
		s := small()
		behind, ran, err := Run(s, list)
		if err != api.ErrKind || ran != place || !reflect.DeepEqual(behind, api.State{}) || !same(s, small()) {
			t.Error(place, behind, ran, err)
		}
	}
}

// P13.1: as many events as a journal may have are run, and undone.
func TestRunLong(t *testing.T) {
	s := small()
	var list []api.Event
	for i := range api.MaxJournal {
		list = append(list, of(4, 0, 0, 9+i, 10+i, 0))
	}
	want := small()
	want.Game[0] = 9 + api.MaxJournal
	behind, ran, err := Run(s, list)
	if err != nil || ran != api.MaxJournal || !same(behind, want) {
		t.Fatal(ran, err)
	}
	if back, undone, err := Undo(behind, list); err != nil || undone != api.MaxJournal || !same(back, s) {
		t.Fatal(undone, err)
	}
	if net := Net(list); !slices.Equal(net, []api.Event{of(4, 0, 0, 9, 9+api.MaxJournal, 0)}) {
		t.Fatal(net)
	}
	if times := Touches(list); len(times) != 1 || times[[3]int{4, 0, 0}] != api.MaxJournal {
		t.Fatal(times)
	}
	list[api.MaxJournal-1].C++
	if _, ran, err := Run(s, list); err != api.ErrState || ran != api.MaxJournal-1 {
		t.Fatal(ran, err)
	}
}

// P13.1: nothing else is asked of the state than layer 12 asks.
func TestRunWrongStates(t *testing.T) {
	s := small()
	s.Lists[4] = []int{-1, 400, 3, 3, math.MinInt}
	s.Objects[0][1], s.Game[2], s.Players[0][1] = 77, -5, math.MaxInt
	list := []api.Event{
		of(1, 3, 4, 2, 4, 4), of(1, 3, 4, 2, 0, 0), of(2, 0, 1, 77, 78, 0), of(3, 0, 1, math.MaxInt, 5000, 0), of(4, 0, 2, -5, 99, 0),
		of(0, 1, 0, 0, 0, 0), of(5, 1, 0, 0, 0, 0), of(5, 119, 1, 2, 0, 0),
	}
	if _, ran, err := checkRun(t, s, list); err != nil || ran != len(list) {
		t.Error(ran, err)
	}
	if behind, ran, err := Run(s, nil); err != nil || ran != 0 || !same(behind, s) {
		t.Error(ran, err)
	}
}

// P13.1: events are undone by their opposites, the last one first.
func TestUndo(t *testing.T) {
	s := behindDeeds()
	back, undone, err := Undo(s, deeds())
	if err != nil || undone != 15 || !same(back, small()) || !same(s, behindDeeds()) {
		t.Error(undone, err, back)
	}
	for _, none := range [][]api.Event{nil, {}} {
		if back, undone, err := Undo(small(), none); err != nil || undone != 0 || !same(back, small()) {
			t.Error(undone, err, back)
		}
	}
	s.Players[0][0] = 17
	back, undone, err = Undo(s, []api.Event{of(3, 0, 0, 20, 17, 0)})
	s.Players[0][0] = 20
	if err != nil || undone != 1 || !same(back, s) {
		t.Error(undone, err, back)
	}
}

// P13.1: the first error from the last event on is told, beside the zero state and how many were undone ahead of it.
func TestUndoWrong(t *testing.T) {
	for i, c := range []struct {
		s      api.State
		list   []api.Event
		undone int
		want   error
	}{
		{small(), []api.Event{of(6, 0, 0, 0, 0, 0)}, 0, api.ErrKind},
		{small(), []api.Event{of(0, 120, 0, 0, 0, 0), of(6, 0, 0, 0, 0, 0)}, 0, api.ErrKind},
		{small(), []api.Event{of(6, 0, 0, 0, 0, 0), of(0, 120, 0, 0, 0, 0)}, 0, api.ErrRange},
		{small(), []api.Event{of(6, 0, 0, 0, 0, 0), of(3, 0, 0, 17, 20, 0)}, 1, api.ErrKind},
		{small(), []api.Event{of(3, 0, 0, 20, 17, 0)}, 0, api.ErrState},
		{small(), []api.Event{of(3, 0, 0, 17, 20, 0), of(3, 0, 0, 17, 20, 0)}, 1, api.ErrState},
		{small(), []api.Event{of(3, 0, 0, 17, 20, 0), of(3, 0, 0, 20, 20, 0), of(3, 0, 0, 20, 20, 0)}, 3, nil},
		{small(), []api.Event{of(3, 0, 0, 1<<30+1, 20, 0)}, 0, api.ErrRange},
		{small(), []api.Event{of(3, 0, 0, 19, 20, 1)}, 0, api.ErrForm},
		{small(), []api.Event{of(2, 6, 4, 0, 1, 0)}, 0, api.ErrNone},
		{small(), []api.Event{of(1, 3, 0, 1, 8, 0)}, 0, api.ErrRange},
		{small(), []api.Event{of(1, 3, 0, 0, 8, 0)}, 1, nil},
		{small(), []api.Event{of(0, 119, 1, 2, 0, 0)}, 1, nil},
		{small(), []api.Event{of(0, 119, 1, 1, 0, 0)}, 0, api.ErrState},
		{many(399), []api.Event{of(5, 3, 0, 0, 0, 0), of(5, 3, 0, 0, 0, 0)}, 1, api.ErrFull},
	} {
		back, undone, err := Undo(c.s, c.list)
		if c.want == nil {
			if err != nil || undone != c.undone {
				t.Error(i, undone, err)
			}
		} else if err != c.want || undone != c.undone || !reflect.DeepEqual(back, api.State{}) {
			t.Error(i, back, undone, err)
		}
		checkRun(t, c.s, c.list)
	}
}

// P13.1: the opposites, the last one first, whatever the events are.
func TestInvert(t *testing.T) {
	for i, c := range []struct{ list, want []api.Event }{
		{nil, nil},
		{[]api.Event{}, nil},
		{[]api.Event{of(3, 0, 0, 20, 17, 0)}, []api.Event{of(3, 0, 0, 17, 20, 0)}},
		{
			[]api.Event{of(0, 1, 2, 3, 4, 5), of(1, 1, 2, 3, 4, 5), of(2, 1, 2, 3, 4, 5), of(3, 1, 2, 3, 4, 5), of(4, 1, 2, 3, 4, 5), of(5, 1, 2, 3, 4, 5), of(6, 1, 2, 3, 4, 5), of(-1, 1, 2, 3, 4, 5)},
			[]api.Event{of(-1, 1, 2, 3, 4, 5), of(6, 1, 2, 3, 4, 5), of(0, 1, 2, 3, 4, 5), of(4, 1, 2, 4, 3, 5), of(3, 1, 2, 4, 3, 5), of(2, 1, 2, 4, 3, 5), of(1, 1, 4, 5, 2, 3), of(5, 1, 2, 3, 4, 5)},
		},
		{[]api.Event{of(3, 0, 0, 20, 17, 0), of(3, 0, 0, 17, 16, 0)}, []api.Event{of(3, 0, 0, 16, 17, 0), of(3, 0, 0, 17, 20, 0)}},
	} {
		if got := Invert(c.list); !slices.Equal(got, c.want) {
			t.Error(i, got)
		}
		if got := Invert(Invert(c.list)); !slices.Equal(got, c.list) {
			t.Error(i, got)
		}
	}
}

// P13.1: the document's example, and nets written out by hand.
func TestNet(t *testing.T) {
	unmake, made := of(5, 3, 0, 0, 0, 0), of(0, 3, 0, 0, 0, 0)
	move, there, odd := of(1, 0, 2, 0, 8, 0), of(1, 0, 8, 0, 2, 0), of(7, 5, 4, 3, 2, 1)
	for i, c := range []struct{ list, want []api.Event }{
		{[]api.Event{of(3, 0, 0, 20, 17, 0), of(3, 0, 0, 17, 20, 0)}, nil},
		{nil, nil},
		{[]api.Event{}, nil},
		{[]api.Event{of(3, 0, 0, 20, 17, 0)}, []api.Event{of(3, 0, 0, 20, 17, 0)}},
		{[]api.Event{of(3, 0, 0, 20, 20, 0)}, nil},
		{[]api.Event{of(2, 0, 4, 0, 1, 0), of(2, 0, 4, 1, 2, 0)}, []api.Event{of(2, 0, 4, 0, 2, 0)}},
		{[]api.Event{of(4, 0, 0, 1, 2, 0), of(4, 0, 0, 2, 3, 0), of(4, 0, 0, 3, 4, 0)}, []api.Event{of(4, 0, 0, 1, 4, 0)}},
		// What was set and set back on the way counts no less.
		{[]api.Event{of(4, 0, 0, 1, 2, 0), of(4, 0, 0, 2, 1, 0), of(4, 0, 0, 1, 9, 0)}, []api.Event{of(4, 0, 0, 1, 9, 0)}},
		// Moves stand ahead, in order; fields behind, in the order in which they were first set.
		{[]api.Event{of(3, 0, 0, 20, 17, 0), move, of(3, 1, 0, 20, 19, 0), there, of(3, 0, 0, 17, 16, 0)}, []api.Event{move, there, of(3, 0, 0, 20, 16, 0), of(3, 1, 0, 20, 19, 0)}},
		{[]api.Event{move, there, move, there}, []api.Event{move, there, move, there}},
		{[]api.Event{of(1, 0, 2, 0, 2, 0)}, []api.Event{of(1, 0, 2, 0, 2, 0)}},
		// One that is as it was leaves no gap in that order, and what was first set stays first, if it is set again last.
		{[]api.Event{of(2, 1, 4, 0, 1, 0), of(2, 2, 4, 0, 1, 0), of(2, 3, 4, 0, 1, 0), of(2, 1, 4, 1, 0, 0), of(2, 2, 4, 1, 5, 0)}, []api.Event{of(2, 2, 4, 0, 5, 0), of(2, 3, 4, 0, 1, 0)}},
		// The same numbers of another kind, and another number alone, are other fields.
		{[]api.Event{of(2, 0, 0, 1, 2, 0), of(3, 0, 0, 2, 3, 0), of(4, 0, 0, 3, 1, 0)}, []api.Event{of(2, 0, 0, 1, 2, 0), of(3, 0, 0, 2, 3, 0), of(4, 0, 0, 3, 1, 0)}},
		{[]api.Event{of(3, 0, 1, 1, 2, 0), of(3, 1, 1, 2, 3, 0), of(3, 1, 0, 3, 1, 0)}, []api.Event{of(3, 0, 1, 1, 2, 0), of(3, 1, 1, 2, 3, 0), of(3, 1, 0, 3, 1, 0)}},
		// What makes and unmakes stays where it is, and cuts.
		{[]api.Event{of(3, 0, 0, 20, 17, 0), made, of(3, 0, 0, 17, 20, 0)}, []api.Event{of(3, 0, 0, 20, 17, 0), made, of(3, 0, 0, 17, 20, 0)}},
		{[]api.Event{of(3, 0, 0, 20, 17, 0), unmake, of(3, 0, 0, 17, 20, 0)}, []api.Event{of(3, 0, 0, 20, 17, 0), unmake, of(3, 0, 0, 17, 20, 0)}},
		{[]api.Event{made, unmake, made, unmake}, []api.Event{made, unmake, made, unmake}},
		{[]api.Event{made, of(4, 0, 0, 1, 2, 0), of(4, 0, 0, 2, 1, 0), unmake, of(4, 0, 0, 1, 1, 0)}, []api.Event{made, unmake}},
		{
			[]api.Event{of(2, 5, 4, 0, 1, 0), move, unmake, of(2, 5, 4, 0, 1, 0), there, of(2, 5, 4, 1, 0, 0), of(4, 0, 0, 1, 2, 0), made, of(4, 0, 0, 2, 4, 0), move, of(4, 0, 0, 4, 6, 0)},
			[]api.Event{move, of(2, 5, 4, 0, 1, 0), unmake, there, of(4, 0, 0, 1, 2, 0), made, move, of(4, 0, 0, 2, 6, 0)},
		},
		// Events of no kind stand among the moves, in order, and cut nothing.
		{[]api.Event{of(3, 0, 0, 20, 17, 0), odd, move, of(-1, 0, 0, 0, 0, 0), of(3, 0, 0, 17, 20, 0), odd}, []api.Event{odd, move, of(-1, 0, 0, 0, 0, 0), odd}},
		{[]api.Event{of(math.MaxInt, 1, 1, 1, 1, 1), of(math.MinInt, 2, 2, 2, 2, 2)}, []api.Event{of(math.MaxInt, 1, 1, 1, 1, 1), of(math.MinInt, 2, 2, 2, 2, 2)}},
		// Whatever the events are: what isn't so of any state, numbers that may not be, and what the first one has beside.
		{[]api.Event{of(3, 0, 0, 20, 17, 0), of(3, 0, 0, 99, 3, 0)}, []api.Event{of(3, 0, 0, 20, 3, 0)}},
		{[]api.Event{of(3, 0, 0, 20, 17, 0), of(3, 0, 0, 99, 20, 0)}, nil},
		{[]api.Event{of(3, 0, 0, 20, 17, 5), of(3, 0, 0, 17, 18, 6)}, []api.Event{of(3, 0, 0, 20, 18, 5)}},
		{[]api.Event{of(2, -9, 99, math.MinInt, 0, 1), of(2, -9, 99, 0, math.MaxInt, 2)}, []api.Event{of(2, -9, 99, math.MinInt, math.MaxInt, 1)}},
		{[]api.Event{of(2, 0, 3, 8, 9, 0), of(2, 0, 3, 9, 10, 0)}, []api.Event{of(2, 0, 3, 8, 10, 0)}},
		{[]api.Event{of(4, 0, 0, 1, 2, 0), of(4, 1, 0, 2, 1, 0)}, []api.Event{of(4, 0, 0, 1, 2, 0), of(4, 1, 0, 2, 1, 0)}},
		{[]api.Event{of(0, -1, 9, 9, 9, 9), of(0, -1, 9, 9, 9, 9)}, []api.Event{of(0, -1, 9, 9, 9, 9), of(0, -1, 9, 9, 9, 9)}},
	} {
		if got := Net(c.list); !slices.Equal(got, c.want) {
			t.Error(i, c.list, got, c.want)
		}
		checkList(t, c.list)
	}
}

// P13.1: fields stand in the order in which they were first set, however many there are, and each time.
func TestNetOrder(t *testing.T) {
	r := rand.New(rand.NewSource(13))
	var want []api.Event
	for id := range 400 {
		for field := range 18 {
			want = append(want, of(2, id, field, 0, id+field+1, 0))
		}
	}
	r.Shuffle(len(want), func(i, j int) { want[i], want[j] = want[j], want[i] })
	var list []api.Event
	for _, e := range want {
		list = append(list, of(2, e.A, e.B, 0, -1, 0))
	}
	for _, place := range r.Perm(len(want)) {
		e := want[place]
		list = append(list, of(2, e.A, e.B, -1, e.D, 0))
	}
	for range 3 {
		if got := Net(list); !slices.Equal(got, want) {
			t.Fatal("another order")
		}
	}
}

// P13.1: there is one span more than events that make or unmake.
func TestSpans(t *testing.T) {
	for i, c := range []struct {
		list []api.Event
		want int
	}{
		{nil, 1},
		{[]api.Event{}, 1},
		{[]api.Event{of(0, 0, 0, 0, 0, 0)}, 2},
		{[]api.Event{of(5, 0, 0, 0, 0, 0)}, 2},
		{[]api.Event{of(0, -1, 9, 9, 9, 9), of(5, -1, 9, 9, 9, 9)}, 3},
		{[]api.Event{of(1, 0, 0, 0, 0, 0), of(2, 0, 0, 0, 0, 0), of(3, 0, 0, 0, 0, 0), of(4, 0, 0, 0, 0, 0), of(6, 0, 0, 0, 0, 0), of(-1, 0, 0, 0, 0, 0), of(-5, 0, 0, 0, 0, 0), of(math.MinInt, 0, 0, 0, 0, 0)}, 1},
		{deeds(), 4},
	} {
		if got := Spans(c.list); got != c.want {
			t.Error(i, got, c.want)
		}
	}
}

// P13.1: each field that is set is told, and how often, whatever else the events are.
func TestTouches(t *testing.T) {
	for i, c := range []struct {
		list []api.Event
		want map[[3]int]int
	}{
		{nil, nil},
		{[]api.Event{}, nil},
		{[]api.Event{of(0, 0, 0, 0, 0, 0), of(1, 0, 0, 0, 0, 0), of(5, 0, 0, 0, 0, 0), of(6, 0, 0, 0, 0, 0), of(-1, 0, 0, 0, 0, 0)}, nil},
		{[]api.Event{of(3, 0, 0, 20, 17, 0)}, map[[3]int]int{{3, 0, 0}: 1}},
		{[]api.Event{of(3, 0, 0, 20, 20, 0), of(3, 0, 0, 20, 17, 0), of(3, 0, 0, 17, 20, 0)}, map[[3]int]int{{3, 0, 0}: 3}},
		{[]api.Event{of(2, 1, 2, 0, 0, 0), of(2, 2, 1, 0, 0, 0), of(3, 1, 2, 0, 0, 0), of(4, 1, 2, 0, 0, 0), of(2, 1, 2, 9, 9, 9)}, map[[3]int]int{{2, 1, 2}: 2, {2, 2, 1}: 1, {3, 1, 2}: 1, {4, 1, 2}: 1}},
		{[]api.Event{of(2, math.MinInt, math.MaxInt, 1, 2, 3), of(2, math.MinInt, math.MaxInt, 4, 5, 6)}, map[[3]int]int{{2, math.MinInt, math.MaxInt}: 2}},
		// What makes and unmakes cuts nothing here.
		{[]api.Event{of(4, 0, 0, 1, 2, 0), of(0, 0, 0, 0, 0, 0), of(4, 0, 0, 2, 3, 0), of(5, 0, 0, 0, 0, 0), of(4, 0, 0, 3, 1, 0)}, map[[3]int]int{{4, 0, 0}: 3}},
		{deeds(), map[[3]int]int{{3, 0, 0}: 2, {2, 1, 4}: 2, {2, 6, 15}: 2, {4, 0, 5}: 2}},
	} {
		if got := Touches(c.list); !maps.Equal(got, c.want) {
			t.Error(i, got, c.want)
		}
	}
}

// P13.1: of all lists of up to four events of few sorts, all calls answer as the chapter says.
func TestAllShort(t *testing.T) {
	sorts := []api.Event{
		of(3, 0, 0, 20, 17, 0), of(3, 0, 0, 17, 20, 0), of(3, 1, 0, -7, 20, 0), of(2, 0, 0, 10, 20, 0), of(4, 0, 0, 9, 9, 0),
		of(1, 0, 2, 0, 8, 0), of(1, 0, 8, 0, 2, 0), of(0, 9, 0, 0, 0, 0), of(5, 9, 0, 0, 0, 0), of(6, 0, 0, 0, 0, 0),
	}
	s := small()
	var list []api.Event
	var grow func()
	grow = func() {
		checkList(t, list)
		if _, _, err := checkRun(t, s, list); err == nil {
			checkThereAndBack(t, s, list)
		}
		if len(list) == 4 {
			return
		}
		for _, e := range sorts {
			list = append(list, e)
			grow()
			list = list[:len(list)-1]
		}
	}
	grow()
}

// anyNumber is a number near the ends of what an event's numbers may be, or far off.
func anyNumber(r *rand.Rand) int {
	if r.Intn(20) > 0 {
		return r.Intn(4)
	}
	return []int{math.MinInt, -1<<30 - 1, -2, -1, 10, 11, 17, 18, 400, 1 << 30, 1<<30 + 1, 1 << 32, math.MaxInt}[r.Intn(13)]
}

// P13.1: of whatever events, all calls answer as the chapter says.
func TestWhatever(t *testing.T) {
	r := rand.New(rand.NewSource(1313))
	for range 20000 {
		var list []api.Event
		for range r.Intn(30) {
			kind := r.Intn(10) - 2
			if r.Intn(3) > 0 {
				kind = 2 + r.Intn(3)
			}
			list = append(list, of(kind, anyNumber(r), anyNumber(r), anyNumber(r), anyNumber(r), anyNumber(r)))
		}
		checkList(t, list)
		checkRun(t, small(), list)
	}
}

// anyRight is an event that may be done on a state each of whose objects stands where it says, and only there.
func anyRight(r *rand.Rand, s api.State) api.Event {
	count := len(s.Objects)
	// Numbers come again and again, so that fields are often set back.
	number := []int{0, 1, 2, -1, api.MaxNumber, -api.MaxNumber}[r.Intn(6)]
	switch kind := r.Intn(9); {
	case kind == 0 && r.Intn(4) == 0:
		return of(0, r.Intn(120), r.Intn(2), r.Intn(3), 0, 0)
	case kind <= 1 && count > 0 && r.Intn(2) == 0:
		last := s.Objects[count-1]
		return of(5, last[0], last[1], last[13], 0, 0)
	case kind <= 3 && count > 0:
		id := r.Intn(count)
		from, to := s.Objects[id][3], r.Intn(11)
		room := len(s.Lists[to]) + 1
		if to == from {
			room--
		}
		return of(1, id, from, slices.Index(s.Lists[from], id), to, r.Intn(room))
	case kind <= 5 && count > 0:
		id, field := r.Intn(count), []int{0, 1, 2, 4, 5, 6, 7, 8, 9, 10, 11, 12, 13, 14, 15, 16, 17}[r.Intn(17)]
		return of(2, id, field, s.Objects[id][field], number, 0)
	case kind <= 7:
		player, field := r.Intn(2), r.Intn(9)
		return of(3, player, field, s.Players[player][field], number, 0)
	}
	field := r.Intn(7)
	return of(4, 0, field, s.Game[field], number, 0)
}

// P13.1, P13.2: what may be run may be undone, and its net run, to the same state; the net of a net is itself.
func TestThereAndBack(t *testing.T) {
	r := rand.New(rand.NewSource(132))
	done, shorter := [6]int{}, 0
	for round := range 1500 {
		start := small()
		if round%3 == 0 {
			start = api.State{}
		}
		s, list := start, []api.Event(nil)
		for range r.Intn(80) {
			e := anyRight(r, s)
			behind, err := event.Apply(s, e)
			if err != nil {
				continue
			}
			s, list = behind, append(list, e)
			done[e.Kind]++
		}
		checkThereAndBack(t, start, list)
		checkList(t, list)
		if behind, _, _ := Run(start, list); !same(behind, s) {
			t.Fatal(round, list)
		}
		if net := Net(list); len(net) < len(list) {
			shorter++
		}
	}
	for kind, times := range done {
		if times < 500 {
			t.Error("kind", kind, "was done", times, "times only")
		}
	}
	if shorter < 500 {
		t.Error("only", shorter, "nets are shorter")
	}
}

// P13.2: an object that was unmade, and another one of its number, are two; what is set of each stays with it.
func TestOfOneNumber(t *testing.T) {
	list := []api.Event{
		of(0, 1, 0, 0, 0, 0), of(2, 6, 4, 0, 1, 0), of(2, 6, 4, 1, 0, 0), of(5, 1, 0, 0, 0, 0),
		of(0, 2, 1, 1, 0, 0), of(2, 6, 4, 0, 1, 0), of(1, 6, 10, 2, 8, 0),
	}
	checkThereAndBack(t, small(), list)
	want := []api.Event{of(0, 1, 0, 0, 0, 0), of(5, 1, 0, 0, 0, 0), of(0, 2, 1, 1, 0, 0), of(1, 6, 10, 2, 8, 0), of(2, 6, 4, 0, 1, 0)}
	if got := Net(list); !slices.Equal(got, want) {
		t.Error(got)
	}
	checkThereAndBack(t, small(), deeds())
	if s, _, err := Run(small(), Net(deeds())); err != nil || !same(s, behindDeeds()) {
		t.Error(s, err)
	}
	if s, _, err := Undo(behindDeeds(), Net(deeds())); err != nil || !same(s, small()) {
		t.Error(s, err)
	}
}

// roomy is a state whose lists have spare room, which isn't theirs, and whether that room is as it was.
func roomy(s api.State) (api.State, func() bool) {
	count := len(s.Objects)
	objects := append(slices.Clone(s.Objects), api.Object{1, 2, 3}, api.Object{4, 5, 6})
	s.Objects = objects[:count]
	var all [11][]int
	for zone, list := range s.Lists {
		all[zone] = append(slices.Clone(list), -77, -78)
		s.Lists[zone] = all[zone][:len(list)]
	}
	return s, func() bool {
		for _, list := range all {
			if end := len(list); list[end-2] != -77 || list[end-1] != -78 {
				return false
			}
		}
		return objects[count] == api.Object{1, 2, 3} && objects[count+1] == api.Object{4, 5, 6}
	}
}

// spoil writes over all that a state has, its spare room too.
func spoil(s api.State) {
	objects := s.Objects[:cap(s.Objects)]
	for i := range objects {
		objects[i] = api.Object{-9}
	}
	for _, list := range s.Lists {
		list = list[:cap(list)]
		for i := range list {
			list[i] = -99
		}
	}
}

// P13.1 (P1): the state that is handed in stays, with its spare room; an answer is new memory, even where nothing was run.
func TestStateMemory(t *testing.T) {
	for count := range len(deeds()) + 1 {
		list := deeds()[:count]
		want, _, _ := reckonedRun(small(), list)
		for _, run := range []func(api.State) (api.State, int, error){
			func(s api.State) (api.State, int, error) { return Run(s, list) },
			func(s api.State) (api.State, int, error) { return Undo(s, Invert(list)) },
		} {
			s, kept := roomy(small())
			behind, _, err := run(s)
			if err != nil || !same(behind, want) || !same(s, small()) || !kept() {
				t.Fatal(count, err)
			}
			spoil(behind)
			if !same(s, small()) || !kept() {
				t.Fatal(count, "shares what it was handed, or its room")
			}
			behind, _, _ = run(s)
			spoil(s)
			if !same(behind, want) {
				t.Fatal(count, "shares what it was handed")
			}
		}
		s, kept := roomy(small())
		if _, _, err := Run(s, append(slices.Clone(list), of(6, 0, 0, 0, 0, 0))); err == nil || !same(s, small()) || !kept() {
			t.Fatal(count, err)
		}
	}
}

// P13.1 (P1): no two lists of an answer share memory, though those that were handed in do.
func TestListsApart(t *testing.T) {
	for count := range len(deeds()) + 1 {
		room := []int{0, 1, 2, 3, 4, 5, 6}
		s := small()
		s.Lists[2], s.Lists[8], s.Lists[10] = room[:3], room[3:4], room[4:6]
		behind, _, err := Run(s, deeds()[:count])
		if err != nil || !slices.Equal(room, []int{0, 1, 2, 3, 4, 5, 6}) {
			t.Fatal(err, room)
		}
		held := apart(behind)
		for zone, list := range behind.Lists {
			list = list[:cap(list)]
			for i := range list {
				list[i] = -1
			}
			for other := range behind.Lists {
				if other != zone && !slices.Equal(behind.Lists[other], held.Lists[other]) {
					t.Fatal(count, zone, other)
				}
			}
			copy(behind.Lists[zone], held.Lists[zone])
		}
	}
}

// P13.1 (P1): events that are handed in stay, with their spare room, and an answer is new memory.
func TestEventMemory(t *testing.T) {
	ends := of(-7, -7, -7, -7, -7, -7)
	for _, all := range [][]api.Event{deeds(), {of(3, 0, 0, 1, 2, 0)}, {of(0, 0, 0, 0, 0, 0)}, {of(1, 0, 0, 0, 0, 0)}, {of(4, 0, 0, 1, 2, 0), of(4, 0, 0, 2, 1, 0)}, nil} {
		for _, call := range []func([]api.Event) []api.Event{Net, Invert} {
			list := append(slices.Clone(all), ends, ends)
			answer := call(list[:len(all)])
			want := slices.Clone(answer)
			if !slices.Equal(list, append(slices.Clone(all), ends, ends)) {
				t.Fatal("what was handed in was changed")
			}
			answer = answer[:cap(answer)]
			for i := range answer {
				answer[i] = api.Event{}
			}
			if !slices.Equal(list, append(slices.Clone(all), ends, ends)) {
				t.Fatal("an answer shares what was handed in")
			}
			answer = call(list[:len(all)])
			for i := range list {
				list[i] = api.Event{}
			}
			if !slices.Equal(answer, want) {
				t.Fatal("an answer shares what was handed in")
			}
		}
		// One call's map is another one's neither.
		times := Touches(all)
		want := maps.Clone(times)
		for key := range want {
			times[key] = -1
		}
		if !maps.Equal(Touches(all), want) {
			t.Fatal("an answer is kept")
		}
	}
}

// P13.2: the states that the deeds lead to and from are right ones.
func TestRightStates(t *testing.T) {
	behind, _, err := Run(small(), deeds())
	if err != nil || state.Check(small()) != nil || state.Check(behind) != nil {
		t.Fatal(err, state.Check(small()), state.Check(behind))
	}
}
