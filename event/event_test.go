package event

import (
	"bytes"
	"math"
	"math/rand"
	"reflect"
	"slices"
	"testing"

	"mulligan/api"
	"mulligan/state"
	"mulligan/wire"
)

// edges are numbers about the ends of what an event's numbers may be, and far off.
var edges = []int{
	math.MinInt, math.MinInt + 1, -1 << 32, -1<<30 - 1, -1 << 30, -1<<30 + 1, -2, -1, 0, 1, 2, 3, 4, 5, 6, 7, 8, 9, 10, 11, 12, 16, 17, 18, 19,
	118, 119, 120, 399, 400, 401, 1<<30 - 1, 1 << 30, 1<<30 + 1, 1 << 32, 1<<32 + 1, math.MaxInt - 1, math.MaxInt,
}

// right is one event of each kind that may be.
func right() []api.Event {
	return []api.Event{
		{Kind: 0, A: 119, B: 1, C: 2},
		{Kind: 1, A: 5, B: 10, C: 3, D: 9, E: 4},
		{Kind: 2, A: 7, B: 6, C: 1, D: 2},
		{Kind: 3, A: 1, B: 8, C: 0, D: 1},
		{Kind: 4, B: 6, C: 0, D: 2},
		{Kind: 5, A: 119, B: 1, C: 2},
	}
}

// of is an event by its six numbers.
func of(kind, a, b, c, d, e int) api.Event {
	return api.Event{Kind: kind, A: a, B: b, C: c, D: d, E: e}
}

// places are where an event's numbers stand.
func places(e *api.Event) []*int { return []*int{&e.Kind, &e.A, &e.B, &e.C, &e.D, &e.E} }

// varied goes through each right event with each pair of its numbers exchanged for edges.
func varied(yield func(api.Event)) {
	for _, whole := range right() {
		for i := range 6 {
			for j := range i {
				for _, x := range edges {
					for _, y := range edges {
						e := whole
						*places(&e)[i], *places(&e)[j] = x, y
						yield(e)
					}
				}
			}
		}
	}
}

// reckonedCheck is what Check is to answer, by the chapter's words.
func reckonedCheck(e api.Event) error {
	in := func(n, least, most int) bool { return least <= n && n <= most }
	var zeros []int
	var fits bool
	switch e.Kind {
	case 0, 5:
		zeros, fits = []int{e.D, e.E}, in(e.A, 0, 119) && in(e.B, 0, 1) && in(e.C, 0, 2)
	case 1:
		fits = e.A >= 0 && in(e.B, 0, 10) && e.C >= 0 && in(e.D, 0, 10) && e.E >= 0
	case 2:
		zeros, fits = []int{e.E}, e.A >= 0 && (in(e.B, 0, 2) || in(e.B, 4, 17)) && in(e.D, -1073741824, 1073741824)
	case 3:
		zeros, fits = []int{e.E}, in(e.A, 0, 1) && in(e.B, 0, 8) && in(e.D, -1073741824, 1073741824)
	case 4:
		zeros, fits = []int{e.A, e.E}, in(e.B, 0, 6) && in(e.D, -1073741824, 1073741824)
	default:
		return api.ErrKind
	}
	for _, n := range zeros {
		if n != 0 {
			return api.ErrForm
		}
	}
	if !fits {
		return api.ErrRange
	}
	return nil
}

// apart is a state of memory of its own, without layer 10.
func apart(s api.State) api.State {
	s.Objects = slices.Clone(s.Objects)
	for zone := range s.Lists {
		s.Lists[zone] = slices.Clone(s.Lists[zone])
	}
	return s
}

// same tells whether two states are the same, without layer 10.
func same(a, b api.State) bool {
	for zone := range a.Lists {
		if !slices.Equal(a.Lists[zone], b.Lists[zone]) {
			return false
		}
	}
	return slices.Equal(a.Objects, b.Objects) && a.Players == b.Players && a.Game == b.Game
}

// reckoned is what Apply is to answer, by the chapter's words, number by number.
func reckoned(s api.State, e api.Event) (api.State, error) {
	if err := reckonedCheck(e); err != nil {
		return api.State{}, err
	}
	s = apart(s)
	count := len(s.Objects)
	switch e.Kind {
	case 0:
		if count > 399 {
			return api.State{}, api.ErrFull
		}
		s.Objects = append(s.Objects, api.Object{e.A, e.B, e.B, 10, 0, 0, 0, 0, 0, 0, 0, 0, 0, e.C, 0, 0, 0, 3})
		s.Lists[10] = append(s.Lists[10], count)
	case 5:
		gone := len(s.Lists[10])
		if count == 0 || gone == 0 || s.Lists[10][gone-1] != count-1 {
			return api.State{}, api.ErrState
		}
		for field, n := range s.Objects[count-1] {
			if want := map[int]int{0: e.A, 1: e.B, 2: e.B, 3: 10, 13: e.C, 17: 3}[field]; n != want {
				return api.State{}, api.ErrState
			}
		}
		s.Objects, s.Lists[10] = s.Objects[:count-1], s.Lists[10][:gone-1]
	case 1:
		return reckonedMove(s, e)
	case 2:
		if e.A >= count {
			return api.State{}, api.ErrNone
		}
		return reckonedSet(s, &s.Objects[e.A][e.B], e)
	case 3:
		place := &s.Players[e.A][e.B]
		if *place != e.C {
			return api.State{}, api.ErrState
		}
		*place = e.D
	case 4:
		place := &s.Game[e.B]
		if *place != e.C {
			return api.State{}, api.ErrState
		}
		*place = e.D
	}
	return s, nil
}

// reckonedSet is a state of which a number that is an object's is set.
func reckonedSet(s api.State, place *int, e api.Event) (api.State, error) {
	if *place != e.C {
		return api.State{}, api.ErrState
	}
	*place = e.D
	return s, nil
}

// reckonedMove is a state behind a move, by the chapter's words.
func reckonedMove(s api.State, e api.Event) (api.State, error) {
	if e.A >= len(s.Objects) {
		return api.State{}, api.ErrNone
	}
	if e.C >= len(s.Lists[e.B]) || s.Lists[e.B][e.C] != e.A {
		return api.State{}, api.ErrState
	}
	var rest []int
	for place, id := range s.Lists[e.B] {
		if place != e.C {
			rest = append(rest, id)
		}
	}
	s.Lists[e.B] = rest
	if e.E > len(s.Lists[e.D]) {
		return api.State{}, api.ErrRange
	}
	var all []int
	for place := range len(s.Lists[e.D]) + 1 {
		switch {
		case place < e.E:
			all = append(all, s.Lists[e.D][place])
		case place == e.E:
			all = append(all, e.A)
		default:
			all = append(all, s.Lists[e.D][place-1])
		}
	}
	s.Lists[e.D] = all
	s.Objects[e.A][3] = e.D
	return s, nil
}

// checkEvent holds Apply and Do of an event against the reckoning; it answers the state behind it.
func checkEvent(t *testing.T, s api.State, e api.Event) (api.State, error) {
	t.Helper()
	want, wrong := reckoned(s, e)
	before := apart(s)
	behind, err := Apply(s, e)
	if err != wrong || !same(behind, want) {
		t.Fatalf("Apply %v: %v, not %v: %v, not %v", e, err, wrong, behind, want)
	}
	if !same(s, before) {
		t.Fatalf("Apply %v changed what it was handed", e)
	}
	if err != nil && !reflect.DeepEqual(behind, api.State{}) {
		t.Fatalf("Apply %v: beside %v: %v", e, err, behind)
	}
	done := apart(s)
	if err := Do(&done, e); err != wrong {
		t.Fatalf("Do %v: %v, not %v", e, err, wrong)
	}
	if wrong != nil {
		want = before
	}
	if !same(done, want) {
		t.Fatalf("Do %v: %v, not %v", e, done, want)
	}
	return behind, err
}

// standing is the state of objects, each of which stands in the list that it says.
func standing(objects ...api.Object) api.State {
	s := api.State{Objects: objects}
	for id, o := range objects {
		s.Lists[o[api.FZone]] = append(s.Lists[o[api.FZone]], id)
	}
	return s
}

// small is a right state: three cards in a hand, one on the field, and behind them three that are gone.
func small() api.State {
	s := standing(
		api.Object{api.FCard: 10, api.FZone: 2},
		api.Object{api.FCard: 11, api.FZone: 2, api.FKnows: 1},
		api.Object{api.FCard: 12, api.FZone: 2},
		api.Object{api.FCard: 70, api.FZone: 8, api.FTapped: 1, api.FPower: -4},
		api.Object{api.FCard: 119, api.FZone: 10, api.FKind: 1, api.FKnows: 3},
		api.Object{api.FCard: 119, api.FOwner: 1, api.FControl: 1, api.FZone: 10, api.FKind: 2, api.FSource: 4, api.FKnows: 3},
		api.Object{api.FCard: 119, api.FOwner: 1, api.FControl: 1, api.FZone: 10, api.FKind: 2, api.FKnows: 3},
	)
	s.Players = [2][9]int{{20, 1, 2, 3, 4, 5, 6, 1, 0}, {-7, 0, 0, 0, 0, 0, 0, 0, 1}}
	s.Game = [7]int{9, 1, 5, 1, 1, 40, 0}
	return s
}

// many is a state of so many objects, all of which are gone; the last one is as an event makes it.
func many(count int) api.State {
	var objects []api.Object
	for range count {
		objects = append(objects, api.Object{api.FCard: 3, api.FZone: 10, api.FKnows: 3})
	}
	return standing(objects...)
}

// anyState is any state of up to so many objects; not all of them are right.
func anyState(r *rand.Rand, most int) api.State {
	var objects []api.Object
	for range r.Intn(most + 1) {
		owner := r.Intn(2)
		o := api.Object{api.FCard: 117 + r.Intn(3), api.FOwner: owner, api.FControl: owner, api.FZone: []int{0, 3, 8, 9, 10}[r.Intn(5)], api.FKind: r.Intn(3), api.FKnows: 3}
		if r.Intn(3) == 0 {
			o[r.Intn(18)] = r.Intn(3)
		}
		objects = append(objects, o)
	}
	s := standing(objects...)
	for _, list := range s.Lists {
		r.Shuffle(len(list), func(i, j int) { list[i], list[j] = list[j], list[i] })
	}
	for p := range s.Players {
		for field := range s.Players[p] {
			s.Players[p][field] = r.Intn(5) - 2
		}
	}
	for field := range s.Game {
		s.Game[field] = r.Intn(3)
	}
	return s
}

// anyEvent is an event that may often be done on a state, but not always.
func anyEvent(r *rand.Rand, s api.State) api.Event {
	count := len(s.Objects)
	near := func(n int) int {
		if r.Intn(12) == 0 {
			return n + r.Intn(3) - 1
		}
		return n
	}
	switch r.Intn(6) {
	case 0:
		return api.Event{Kind: 0, A: near(r.Intn(120)), B: near(r.Intn(2)), C: near(r.Intn(3))}
	case 1:
		from, to := r.Intn(11), r.Intn(11)
		if r.Intn(4) == 0 {
			to = from
		}
		e := api.Event{Kind: 1, A: r.Intn(count + 2), B: from, D: to}
		if len(s.Lists[from]) > 0 {
			e.C = r.Intn(len(s.Lists[from]))
			e.A = near(s.Lists[from][e.C])
			e.C = near(e.C)
		}
		e.E = near(r.Intn(len(s.Lists[to]) + 1))
		return e
	case 2:
		e := api.Event{Kind: 2, A: near(r.Intn(count + 1)), B: near(r.Intn(18)), D: r.Intn(9) - 4}
		if e.A >= 0 && e.A < count && e.B >= 0 && e.B < 18 {
			e.C = near(s.Objects[e.A][e.B])
		}
		return e
	case 3:
		e := api.Event{Kind: 3, A: r.Intn(2), B: r.Intn(9), D: r.Intn(9) - 4}
		e.C = near(s.Players[e.A][e.B])
		return e
	case 4:
		e := api.Event{Kind: 4, B: r.Intn(7), D: r.Intn(9) - 4}
		e.C = near(s.Game[e.B])
		return e
	}
	e := api.Event{Kind: 5, A: 119, B: 1, C: 2}
	if count > 0 {
		last := s.Objects[count-1]
		e.A, e.B, e.C = near(last[api.FCard]), near(last[api.FOwner]), near(last[api.FKind])
	}
	return e
}

// P12.1: Check answers nil of right events.
func TestCheckRight(t *testing.T) {
	list := append(right(),
		api.Event{}, api.Event{Kind: 5}, api.Event{Kind: 1}, api.Event{Kind: 2}, api.Event{Kind: 3}, api.Event{Kind: 4},
		api.Event{Kind: 1, A: math.MaxInt, B: 0, C: math.MaxInt, D: 10, E: math.MaxInt},
		api.Event{Kind: 2, A: math.MaxInt, B: 17, C: math.MinInt, D: 1 << 30},
		api.Event{Kind: 2, A: 0, B: 2, C: math.MaxInt, D: -1 << 30},
		api.Event{Kind: 2, A: 0, B: 4},
		api.Event{Kind: 3, A: 1, B: 0, C: 1 << 40, D: -1 << 30},
		api.Event{Kind: 4, B: 0, C: -1 << 40, D: 1 << 30},
	)
	for _, e := range list {
		if err := Check(e); err != nil {
			t.Error(e, err)
		}
	}
}

// P12.1: Check tells another kind, then a number that isn't told and isn't 0, then what is out of range.
func TestCheckWrong(t *testing.T) {
	for i, c := range []struct {
		e    api.Event
		want error
	}{
		{api.Event{Kind: -1}, api.ErrKind},
		{api.Event{Kind: 6}, api.ErrKind},
		{api.Event{Kind: 6, A: -1, B: 99, D: 1, E: 1}, api.ErrKind},
		{api.Event{Kind: math.MaxInt}, api.ErrKind},
		{api.Event{Kind: 0, D: 1}, api.ErrForm},
		{api.Event{Kind: 0, E: -1}, api.ErrForm},
		{api.Event{Kind: 0, A: 120, E: 1}, api.ErrForm},
		{api.Event{Kind: 5, D: -1}, api.ErrForm},
		{api.Event{Kind: 5, C: 3, E: 1}, api.ErrForm},
		{api.Event{Kind: 2, E: 1}, api.ErrForm},
		{api.Event{Kind: 2, A: -1, B: 3, E: 1}, api.ErrForm},
		{api.Event{Kind: 3, E: -1}, api.ErrForm},
		{api.Event{Kind: 3, A: 2, E: 1}, api.ErrForm},
		{api.Event{Kind: 4, A: 1}, api.ErrForm},
		{api.Event{Kind: 4, A: -1, B: 7}, api.ErrForm},
		{api.Event{Kind: 4, E: 1}, api.ErrForm},
		{api.Event{Kind: 0, A: -1}, api.ErrRange},
		{api.Event{Kind: 0, A: 120}, api.ErrRange},
		{api.Event{Kind: 0, B: -1}, api.ErrRange},
		{api.Event{Kind: 0, B: 2}, api.ErrRange},
		{api.Event{Kind: 0, C: -1}, api.ErrRange},
		{api.Event{Kind: 0, C: 3}, api.ErrRange},
		{api.Event{Kind: 5, A: 120}, api.ErrRange},
		{api.Event{Kind: 5, B: 2}, api.ErrRange},
		{api.Event{Kind: 5, C: 3}, api.ErrRange},
		{api.Event{Kind: 1, A: -1}, api.ErrRange},
		{api.Event{Kind: 1, B: -1}, api.ErrRange},
		{api.Event{Kind: 1, B: 11}, api.ErrRange},
		{api.Event{Kind: 1, C: -1}, api.ErrRange},
		{api.Event{Kind: 1, D: -1}, api.ErrRange},
		{api.Event{Kind: 1, D: 11}, api.ErrRange},
		{api.Event{Kind: 1, E: -1}, api.ErrRange},
		{api.Event{Kind: 2, A: -1}, api.ErrRange},
		{api.Event{Kind: 2, B: -1}, api.ErrRange},
		{api.Event{Kind: 2, B: 3}, api.ErrRange},
		{api.Event{Kind: 2, B: 18}, api.ErrRange},
		{api.Event{Kind: 2, D: 1<<30 + 1}, api.ErrRange},
		{api.Event{Kind: 2, D: -1<<30 - 1}, api.ErrRange},
		{api.Event{Kind: 3, A: -1}, api.ErrRange},
		{api.Event{Kind: 3, A: 2}, api.ErrRange},
		{api.Event{Kind: 3, B: -1}, api.ErrRange},
		{api.Event{Kind: 3, B: 9}, api.ErrRange},
		{api.Event{Kind: 3, D: 1<<30 + 1}, api.ErrRange},
		{api.Event{Kind: 3, D: math.MinInt}, api.ErrRange},
		{api.Event{Kind: 4, B: -1}, api.ErrRange},
		{api.Event{Kind: 4, B: 7}, api.ErrRange},
		{api.Event{Kind: 4, D: 1<<30 + 1}, api.ErrRange},
		{api.Event{Kind: 4, D: -1<<30 - 1}, api.ErrRange},
	} {
		if err := Check(c.e); err != c.want {
			t.Error(i, c.e, err, c.want)
		}
	}
}

// P12.1: Check answers as the chapter says of each pair of numbers about the ends.
func TestCheckAll(t *testing.T) {
	varied(func(e api.Event) {
		if err, want := Check(e), reckonedCheck(e); err != want {
			t.Fatal(e, err, want)
		}
	})
}

// P12.1: what each kind does, written out by hand.
func TestApplyEach(t *testing.T) {
	for i, c := range []struct {
		e    api.Event
		want func(s *api.State)
	}{
		{api.Event{Kind: 0, A: 65, B: 1, C: 2}, func(s *api.State) {
			s.Objects = append(s.Objects, api.Object{65, 1, 1, 10, 0, 0, 0, 0, 0, 0, 0, 0, 0, 2, 0, 0, 0, 3})
			s.Lists[10] = []int{4, 5, 6, 7}
		}},
		{api.Event{Kind: 0}, func(s *api.State) {
			s.Objects = append(s.Objects, api.Object{0, 0, 0, 10, 0, 0, 0, 0, 0, 0, 0, 0, 0, 0, 0, 0, 0, 3})
			s.Lists[10] = []int{4, 5, 6, 7}
		}},
		{api.Event{Kind: 5, A: 119, B: 1, C: 2}, func(s *api.State) {
			s.Objects = s.Objects[:6]
			s.Lists[10] = []int{4, 5}
		}},
		{api.Event{Kind: 1, A: 1, B: 2, C: 1, D: 8, E: 0}, func(s *api.State) {
			s.Lists[2], s.Lists[8], s.Objects[1][3] = []int{0, 2}, []int{1, 3}, 8
		}},
		{api.Event{Kind: 1, A: 0, B: 2, C: 0, D: 8, E: 1}, func(s *api.State) {
			s.Lists[2], s.Lists[8], s.Objects[0][3] = []int{1, 2}, []int{3, 0}, 8
		}},
		{api.Event{Kind: 1, A: 2, B: 2, C: 2, D: 1, E: 0}, func(s *api.State) {
			s.Lists[2], s.Lists[1], s.Objects[2][3] = []int{0, 1}, []int{2}, 1
		}},
		{api.Event{Kind: 1, A: 3, B: 8, C: 0, D: 10, E: 2}, func(s *api.State) {
			s.Lists[8], s.Lists[10], s.Objects[3][3] = nil, []int{4, 5, 3, 6}, 10
		}},
		{api.Event{Kind: 1, A: 0, B: 2, C: 0, D: 2, E: 2}, func(s *api.State) { s.Lists[2] = []int{1, 2, 0} }},
		{api.Event{Kind: 1, A: 2, B: 2, C: 2, D: 2, E: 0}, func(s *api.State) { s.Lists[2] = []int{2, 0, 1} }},
		{api.Event{Kind: 1, A: 1, B: 2, C: 1, D: 2, E: 1}, func(s *api.State) {}},
		{api.Event{Kind: 1, A: 3, B: 8, C: 0, D: 8, E: 0}, func(s *api.State) {}},
		{api.Event{Kind: 2, A: 3, B: 8, C: -4, D: 1 << 30}, func(s *api.State) { s.Objects[3][8] = 1 << 30 }},
		{api.Event{Kind: 2, A: 0, B: 0, C: 10, D: -1 << 30}, func(s *api.State) { s.Objects[0][0] = -1 << 30 }},
		{api.Event{Kind: 2, A: 6, B: 17, C: 3, D: 3}, func(s *api.State) {}},
		{api.Event{Kind: 3, A: 0, B: 0, C: 20, D: 17}, func(s *api.State) { s.Players[0][0] = 17 }},
		{api.Event{Kind: 3, A: 1, B: 8, C: 1, D: -9}, func(s *api.State) { s.Players[1][8] = -9 }},
		{api.Event{Kind: 4, B: 5, C: 40, D: 41}, func(s *api.State) { s.Game[5] = 41 }},
		{api.Event{Kind: 4, B: 0, C: 9, D: 9}, func(s *api.State) {}},
	} {
		want := small()
		c.want(&want)
		s := small()
		behind, err := Apply(s, c.e)
		if err != nil || !same(behind, want) || !same(s, small()) {
			t.Error(i, err, behind, want)
		}
		if err := Do(&s, c.e); err != nil || !same(s, want) {
			t.Error(i, err, s, want)
		}
	}
}

// P12.1: what is refused, by which error, and in which order; nothing is changed.
func TestApplyWrong(t *testing.T) {
	for i, c := range []struct {
		s    api.State
		e    api.Event
		want error
	}{
		{small(), api.Event{Kind: 6}, api.ErrKind},
		{small(), api.Event{Kind: 0, D: 1}, api.ErrForm},
		{small(), api.Event{Kind: 0, A: 120}, api.ErrRange},
		{small(), api.Event{Kind: 2, A: 99, B: 3}, api.ErrRange},
		{many(400), api.Event{Kind: 0}, api.ErrFull},
		{many(401), api.Event{Kind: 0}, api.ErrFull},
		{many(400), api.Event{Kind: 0, C: 3}, api.ErrRange},
		{small(), api.Event{Kind: 1, A: 7, B: 2, C: 0, D: 8, E: 99}, api.ErrNone},
		{small(), api.Event{Kind: 1, A: math.MaxInt, B: 2, C: 9, D: 8}, api.ErrNone},
		{small(), api.Event{Kind: 1, A: 0, B: 2, C: 1, D: 8}, api.ErrState},
		{small(), api.Event{Kind: 1, A: 0, B: 2, C: 3, D: 8}, api.ErrState},
		{small(), api.Event{Kind: 1, A: 0, B: 2, C: math.MaxInt, D: 8}, api.ErrState},
		{small(), api.Event{Kind: 1, A: 0, B: 8, C: 0, D: 2}, api.ErrState},
		{small(), api.Event{Kind: 1, A: 0, B: 3, C: 0, D: 2}, api.ErrState},
		{small(), api.Event{Kind: 1, A: 0, B: 2, C: 1, D: 8, E: 9}, api.ErrState},
		{small(), api.Event{Kind: 1, A: 0, B: 2, C: 0, D: 8, E: 2}, api.ErrRange},
		{small(), api.Event{Kind: 1, A: 0, B: 2, C: 0, D: 2, E: 3}, api.ErrRange},
		{small(), api.Event{Kind: 1, A: 0, B: 2, C: 0, D: 7, E: 1}, api.ErrRange},
		{small(), api.Event{Kind: 1, A: 0, B: 2, C: 0, D: 7, E: math.MaxInt}, api.ErrRange},
		{small(), api.Event{Kind: 2, A: 7, B: 0, C: 1}, api.ErrNone},
		{small(), api.Event{Kind: 2, A: math.MaxInt, B: 0}, api.ErrNone},
		{state.New(), api.Event{Kind: 2}, api.ErrNone},
		{state.New(), api.Event{Kind: 1}, api.ErrNone},
		{small(), api.Event{Kind: 2, A: 0, B: 0, C: 11}, api.ErrState},
		{small(), api.Event{Kind: 3, A: 0, B: 0, C: 19}, api.ErrState},
		{small(), api.Event{Kind: 3, A: 1, B: 0, C: 20}, api.ErrState},
		{small(), api.Event{Kind: 4, B: 5, C: 39}, api.ErrState},
		{state.New(), api.Event{Kind: 5}, api.ErrState},
		{small(), api.Event{Kind: 5, A: 118, B: 1, C: 2}, api.ErrState},
		{small(), api.Event{Kind: 5, A: 119, B: 0, C: 2}, api.ErrState},
		{small(), api.Event{Kind: 5, A: 119, B: 1, C: 1}, api.ErrState},
	} {
		if _, err := checkEvent(t, c.s, c.e); err != c.want {
			t.Error(i, c.e, err, c.want)
		}
	}
}

// P12.1: 400 objects are as many as there may be.
func TestFull(t *testing.T) {
	for _, count := range []int{0, 1, 398, 399} {
		behind, err := checkEvent(t, many(count), api.Event{Kind: 0, A: 9})
		if err != nil || len(behind.Objects) != count+1 || state.Check(behind) != nil {
			t.Error(count, err)
		}
	}
	if _, err := checkEvent(t, many(401), api.Event{Kind: 5, A: 3}); err != nil {
		t.Error(err)
	}
}

// P12.1: EvUnmake asks each field of the last object, and that its number stands last among those that are gone.
func TestUnmakeWhateverLacks(t *testing.T) {
	e := api.Event{Kind: 5, A: 119, B: 1, C: 2}
	if _, err := checkEvent(t, small(), e); err != nil {
		t.Fatal(err)
	}
	for field := range 18 {
		for _, n := range []int{-1, 0, 1, 2, 3, 10, 119} {
			s := small()
			want := error(nil)
			if s.Objects[6][field] != n {
				want = api.ErrState
			}
			s.Objects[6][field] = n
			if _, err := checkEvent(t, s, e); err != want {
				t.Error(field, n, err)
			}
		}
	}
	for i, gone := range [][]int{nil, {6, 4, 5}, {4, 5}, {4, 6, 5}, {4, 5, 7}, {4, 5, 6, -1}} {
		s := small()
		s.Lists[10] = gone
		if _, err := checkEvent(t, s, e); err != api.ErrState {
			t.Error(i, err)
		}
	}
	s := small()
	s.Lists[10] = []int{6}
	if _, err := checkEvent(t, s, e); err != nil {
		t.Error(err)
	}
	s = api.State{}
	s.Lists[10] = []int{-1}
	if _, err := checkEvent(t, s, e); err != api.ErrState {
		t.Error(err)
	}
}

// P12.1: nothing else is asked of the state: a move asks the list alone, and sets just what it says.
func TestWrongStates(t *testing.T) {
	s := small()
	s.Lists[4] = []int{-1, 400, 3, 3, math.MinInt}
	s.Objects[0][1], s.Game[2], s.Players[0][1] = 77, -5, math.MaxInt
	for i, e := range []api.Event{
		{Kind: 1, A: 3, B: 4, C: 2, D: 4, E: 4},
		{Kind: 1, A: 3, B: 4, C: 3, D: 0, E: 0},
		{Kind: 1, A: 0, B: 2, C: 0, D: 4, E: 5},
		{Kind: 2, A: 0, B: 1, C: 77, D: 78},
		{Kind: 2, A: 3, B: 13, C: 0, D: 50},
		{Kind: 3, A: 0, B: 1, C: math.MaxInt, D: 5000},
		{Kind: 4, B: 2, C: -5, D: 99},
		{Kind: 0, A: 1},
		{Kind: 5, A: 119, B: 1, C: 2},
	} {
		if _, err := checkEvent(t, s, e); err != nil {
			t.Error(i, err)
		}
	}
}

// P12.1: Apply and Do answer as the chapter says of each pair of numbers about the ends.
func TestApplyEdges(t *testing.T) {
	s := small()
	held := apart(s)
	varied(func(e api.Event) {
		behind, err := Apply(s, e)
		want, wrong := reckoned(s, e)
		if err != wrong || !same(behind, want) || !same(s, held) {
			t.Fatal(e, err, wrong)
		}
	})
}

// P12.1, P12.2: events one behind the other are done as the chapter says, and undone, and the state is as it was.
func TestThereAndBack(t *testing.T) {
	r := rand.New(rand.NewSource(12))
	done := [6]int{}
	for round := range 400 {
		s := anyState(r, 12)
		var states []api.State
		var events []api.Event
		for range 60 {
			e := anyEvent(r, s)
			behind, err := checkEvent(t, s, e)
			if err != nil {
				continue
			}
			// A card that isn't where it says is put back where it stood, which isn't where it said.
			if e.Kind == 1 && s.Objects[e.A][3] != e.B {
				s = behind
				states, events = nil, nil
				continue
			}
			states, events = append(states, s), append(events, e)
			s = behind
			done[e.Kind]++
		}
		for i := len(events) - 1; i >= 0; i-- {
			behind, err := checkEvent(t, s, Invert(events[i]))
			if err != nil || !same(behind, states[i]) {
				t.Fatal(round, events[i], err)
			}
			s = behind
		}
	}
	for kind, times := range done {
		if times < 100 {
			t.Error("kind", kind, "was done", times, "times only")
		}
	}
}

// P12.2: each object of a right state goes to each place and back.
func TestMovesBack(t *testing.T) {
	s := small()
	for id, o := range s.Objects {
		at := slices.Index(s.Lists[o[3]], id)
		for zone := range 11 {
			for place := range len(s.Lists[zone]) + 1 {
				e := api.Event{Kind: 1, A: id, B: o[3], C: at, D: zone, E: place}
				if zone == o[3] && place == len(s.Lists[zone]) {
					continue
				}
				there, err := checkEvent(t, s, e)
				if err != nil || there.Lists[zone][place] != id {
					t.Fatal(e, err)
				}
				back, err := checkEvent(t, there, Invert(e))
				if err != nil || !same(back, s) {
					t.Fatal(e, err)
				}
			}
		}
	}
}

// P12.2: what is made is unmade, and made again.
func TestMakesBack(t *testing.T) {
	for card := range 120 {
		for player := range 2 {
			for kind := range 3 {
				e := api.Event{Kind: 0, A: card, B: player, C: kind}
				there, err := checkEvent(t, small(), e)
				if err != nil {
					t.Fatal(e, err)
				}
				back, err := checkEvent(t, there, Invert(e))
				if err != nil || !same(back, small()) {
					t.Fatal(e, err)
				}
				again, err := checkEvent(t, back, Invert(Invert(e)))
				if err != nil || !same(again, there) {
					t.Fatal(e, err)
				}
			}
		}
	}
}

// P12.1: Do of no state is refused: with Check's error of an event that may not be, else with ErrNone.
func TestDoNone(t *testing.T) {
	for _, e := range append(right(), of(0, 0, 0, 0, 0, 0), of(1, 0, 0, 0, 0, 0), of(2, 0, 0, 0, 0, 0), of(3, 0, 0, 0, 0, 0), of(4, 0, 0, 0, 0, 0), of(5, 0, 0, 0, 0, 0)) {
		if err := Do(nil, e); err != api.ErrNone {
			t.Error(e, err, api.ErrNone)
		}
	}
	for _, c := range []struct {
		e    api.Event
		want error
	}{
		{of(-1, 0, 0, 0, 0, 0), api.ErrKind},
		{of(6, 0, 0, 0, 0, 0), api.ErrKind},
		{of(6, -1, -1, -1, 1, 1), api.ErrKind},
		{of(0, 0, 0, 0, 1, 0), api.ErrForm},
		{of(0, 120, 2, 3, 0, 1), api.ErrForm},
		{of(2, 0, 0, 0, 0, 1), api.ErrForm},
		{of(3, 0, 0, 0, 0, -1), api.ErrForm},
		{of(4, 1, 0, 0, 0, 0), api.ErrForm},
		{of(5, 0, 0, 0, -1, 0), api.ErrForm},
		{of(0, 0, 0, -1, 0, 0), api.ErrRange},
		{of(1, -1, 0, 0, 0, 0), api.ErrRange},
		{of(1, 0, 11, 0, 0, 0), api.ErrRange},
		{of(2, 0, 3, 0, 0, 0), api.ErrRange},
		{of(3, 2, 0, 0, 0, 0), api.ErrRange},
		{of(4, 0, 7, 0, 0, 0), api.ErrRange},
		{of(5, 120, 0, 0, 0, 0), api.ErrRange},
	} {
		if err := Do(nil, c.e); err != c.want {
			t.Error(c.e, err, c.want)
		}
	}
}

// P12.1: Do of no state answers as the chapter says of each pair of numbers about the ends.
func TestDoNoneAll(t *testing.T) {
	varied(func(e api.Event) {
		want := reckonedCheck(e)
		if want == nil {
			want = api.ErrNone
		}
		if err := Do(nil, e); err != want {
			t.Fatal(e, err, want)
		}
	})
}

// P12.1: an event undone, by its kind; of another kind it is itself.
func TestInvert(t *testing.T) {
	for i, c := range []struct{ e, want api.Event }{
		{of(0, 1, 2, 3, 4, 5), of(5, 1, 2, 3, 4, 5)},
		{of(1, 1, 2, 3, 4, 5), of(1, 1, 4, 5, 2, 3)},
		{of(2, 1, 2, 3, 4, 5), of(2, 1, 2, 4, 3, 5)},
		{of(3, 1, 2, 3, 4, 5), of(3, 1, 2, 4, 3, 5)},
		{of(4, 1, 2, 3, 4, 5), of(4, 1, 2, 4, 3, 5)},
		{of(5, 1, 2, 3, 4, 5), of(0, 1, 2, 3, 4, 5)},
		{of(6, 1, 2, 3, 4, 5), of(6, 1, 2, 3, 4, 5)},
		{of(-1, 1, 2, 3, 4, 5), of(-1, 1, 2, 3, 4, 5)},
		{of(math.MinInt, 1, 2, 3, 4, 5), of(math.MinInt, 1, 2, 3, 4, 5)},
		{of(math.MaxInt, 1, 2, 3, 4, 5), of(math.MaxInt, 1, 2, 3, 4, 5)},
		{of(3, 0, 0, 20, 17, 0), of(3, 0, 0, 17, 20, 0)},
		{of(2, math.MinInt, -1, math.MaxInt, math.MinInt, 9), of(2, math.MinInt, -1, math.MinInt, math.MaxInt, 9)},
	} {
		if got := Invert(c.e); got != c.want {
			t.Error(i, c.e, got)
		}
		if got := Invert(Invert(c.e)); got != c.e {
			t.Error(i, c.e, got)
		}
	}
}

// P12.1: three kinds set a field.
func TestSets(t *testing.T) {
	for _, kind := range edges {
		want := kind == 2 || kind == 3 || kind == 4
		if Sets(api.Event{Kind: kind}) != want || Sets(of(kind, -1, 99, 3, 4, 5)) != want {
			t.Error(kind)
		}
	}
}

// P12.1: an event's bytes are its six numbers', whatever they are.
func TestBytes(t *testing.T) {
	for i, c := range []struct {
		e    api.Event
		want []byte
	}{
		{api.Event{}, []byte{0, 0, 0, 0, 0, 0}},
		{of(3, 0, 0, 20, 17, 0), []byte{6, 0, 0, 40, 34, 0}},
		{of(1, 300, 2, 1, 10, 64), []byte{2, 216, 4, 4, 2, 20, 128, 1}},
		{of(2, 5, 8, -1, -300, 0), []byte{4, 10, 16, 1, 215, 4, 0}},
		{of(-1, -2, -3, -4, -5, -6), []byte{1, 3, 5, 7, 9, 11}},
	} {
		if got := Bytes(c.e); !bytes.Equal(got, c.want) {
			t.Error(i, got)
		}
	}
	varied(func(e api.Event) {
		var want []byte
		for _, n := range places(&e) {
			want = wire.Put(want, *n)
		}
		if got := Bytes(e); !bytes.Equal(got, want) {
			t.Fatal(e, got, want)
		}
	})
}

// P12.1: bytes are told by their first fault: layer 2's, then that some are left, then Check's.
func TestParse(t *testing.T) {
	long := func(times int, c byte) []byte { return bytes.Repeat([]byte{c}, times) }
	widest := append(bytes.Repeat(append(long(9, 255), 1), 5), append(long(9, 254), 1)...)
	for i, c := range []struct {
		b    []byte
		want error
	}{
		{nil, api.ErrEnd},
		{[]byte{0, 0, 0, 0, 0}, api.ErrEnd},
		{[]byte{6, 0, 0, 40, 34}, api.ErrEnd},
		{[]byte{6, 0, 0, 40, 34, 128}, api.ErrEnd},
		{[]byte{6, 0, 0, 40, 34, 128, 0}, api.ErrForm},
		{[]byte{128, 0, 0, 40, 34, 0}, api.ErrForm},
		{append([]byte{6, 0, 0, 40, 34}, append(long(9, 128), 2)...), api.ErrForm},
		{append([]byte{6, 0, 0, 40, 34}, long(9, 128)...), api.ErrEnd},
		{append([]byte{6, 0, 0, 40, 34}, long(10, 128)...), api.ErrForm},
		{append([]byte{6, 0, 0, 40, 34}, append(long(9, 128), 1)...), api.ErrForm},
		{[]byte{6, 0, 0, 40, 34, 0, 0}, api.ErrLong},
		{[]byte{6, 0, 0, 40, 34, 0, 128}, api.ErrLong},
		{[]byte{12, 0, 0, 0, 0, 0, 0}, api.ErrLong},
		{append([]byte{6, 0, 0, 40, 34, 0}, long(100000, 0)...), api.ErrLong},
		{long(100000, 0), api.ErrLong},
		{long(100000, 255), api.ErrForm},
		{widest, api.ErrKind},
		{append(widest, 0), api.ErrLong},
		{append(widest, widest...), api.ErrLong},
		{widest[:59], api.ErrEnd},
		{[]byte{12, 0, 0, 0, 0, 0}, api.ErrKind},
		{[]byte{1, 0, 0, 0, 0, 0}, api.ErrKind},
		{[]byte{6, 0, 0, 40, 34, 2}, api.ErrForm},
		{[]byte{6, 4, 0, 40, 34, 0}, api.ErrRange},
		{[]byte{6, 0, 0, 40, 34, 0}, nil},
		{[]byte{2, 216, 4, 4, 2, 20, 128, 1}, nil},
	} {
		held := bytes.Clone(c.b)
		e, err := Parse(c.b)
		if err != c.want || err != nil && e != (api.Event{}) || !bytes.Equal(c.b, held) {
			t.Error(i, e, err)
		}
		if err == nil && !bytes.Equal(Bytes(e), c.b) {
			t.Error(i, e)
		}
	}
}

// P12.1: Parse of an event's bytes is the event, if it may be, and Check's error otherwise.
func TestParseBytes(t *testing.T) {
	varied(func(e api.Event) {
		got, err := Parse(Bytes(e))
		want := reckonedCheck(e)
		if err != want || err == nil && got != e || err != nil && got != (api.Event{}) {
			t.Fatal(e, got, err, want)
		}
	})
}

// P12.1: bytes that were cut or changed are told as layer 2 tells them number by number.
func TestParseAny(t *testing.T) {
	r := rand.New(rand.NewSource(120))
	for range 60000 {
		e := right()[r.Intn(6)]
		*places(&e)[r.Intn(6)] = edges[r.Intn(len(edges))]
		b := Bytes(e)
		for range r.Intn(3) {
			b[r.Intn(len(b))] = []byte{0, 1, 2, 127, 128, 255}[r.Intn(6)]
		}
		switch r.Intn(3) {
		case 0:
			b = b[:r.Intn(len(b)+1)]
		case 1:
			b = append(b, 0)
		}
		got, err := Parse(b)
		want, wrong := reckonedParse(b)
		if err != wrong || got != want {
			t.Fatal(b, got, err, want, wrong)
		}
	}
}

// reckonedParse is what Parse is to answer, by layer 2's Take and the chapter's words.
func reckonedParse(b []byte) (api.Event, error) {
	var e api.Event
	for _, place := range places(&e) {
		n, rest, err := wire.Take(b)
		if err != nil {
			return api.Event{}, err
		}
		*place, b = n, rest
	}
	if len(b) > 0 {
		return api.Event{}, api.ErrLong
	}
	if err := reckonedCheck(e); err != nil {
		return api.Event{}, err
	}
	return e, nil
}

// roomy is a state whose lists have spare room, which isn't theirs.
func roomy(s api.State) (api.State, func() bool) {
	objects := append(slices.Clone(s.Objects), api.Object{1, 2, 3}, api.Object{4, 5, 6})
	count := len(s.Objects)
	s.Objects = objects[:count]
	var all [11][]int
	var counts [11]int
	for zone, list := range s.Lists {
		counts[zone] = len(list)
		all[zone] = append(slices.Clone(list), -77, -78)
		s.Lists[zone] = all[zone][:len(list)]
	}
	kept := func() bool {
		for zone, list := range all {
			if list[counts[zone]] != -77 || list[counts[zone]+1] != -78 {
				return false
			}
		}
		return objects[count] == api.Object{1, 2, 3} && objects[count+1] == api.Object{4, 5, 6}
	}
	return s, kept
}

// deeds are events that may be done on the small state, of each kind and to each end.
func deeds() []api.Event {
	return []api.Event{
		{Kind: 0, A: 65, B: 1, C: 2}, {Kind: 5, A: 119, B: 1, C: 2},
		{Kind: 1, A: 1, B: 2, C: 1, D: 8, E: 0}, {Kind: 1, A: 1, B: 2, C: 1, D: 8, E: 1}, {Kind: 1, A: 3, B: 8, C: 0, D: 5, E: 0},
		{Kind: 1, A: 0, B: 2, C: 0, D: 2, E: 2}, {Kind: 1, A: 2, B: 2, C: 2, D: 2, E: 0},
		{Kind: 2, A: 3, B: 8, C: -4, D: 4}, {Kind: 3, A: 0, B: 0, C: 20, D: 17}, {Kind: 4, B: 5, C: 40, D: 41},
	}
}

// P12.1 (P1): spare room of what is handed in isn't written into, and an answer is new memory.
func TestMemory(t *testing.T) {
	for _, e := range deeds() {
		s, kept := roomy(small())
		behind, err := Apply(s, e)
		if err != nil || !kept() || !same(s, small()) {
			t.Fatal(e, err)
		}
		want, _ := reckoned(small(), e)
		spoil(s)
		if !same(behind, want) || !kept() {
			t.Fatal(e, "shares what it was handed")
		}
		s, kept = roomy(small())
		behind, _ = Apply(s, e)
		spoil(behind)
		if !same(s, small()) || !kept() {
			t.Fatal(e, "shares what it was handed, or its room")
		}
		if err := Do(&s, e); err != nil || !same(s, want) || !kept() {
			t.Fatal(e, err)
		}
	}
}

// spoil writes over all that a state has, its spare room too.
func spoil(s api.State) {
	for i := range s.Objects {
		s.Objects[i] = api.Object{-9}
	}
	for _, list := range s.Lists {
		for i := range list {
			list[i] = -99
		}
		list = list[:cap(list)]
		for i := len(list) - 1; i >= 0 && list[i] != -78 && list[i] != -77; i-- {
			list[i] = -99
		}
	}
}

// P12.1: Do changes the state behind the pointer, and no other one that has the same objects and lists.
func TestDoAlone(t *testing.T) {
	for _, e := range deeds() {
		s := small()
		other := s
		if err := Do(&s, e); err != nil || !same(other, small()) {
			t.Error(e, err)
		}
		// What is put behind the one's objects and lists doesn't stand in the other one's.
		s.Objects = append(s.Objects, api.Object{-9})
		for zone := range s.Lists {
			if e.Kind <= 1 || e.Kind == 5 && zone == 10 {
				s.Lists[zone] = append(s.Lists[zone], -9)
			}
		}
		if !same(other, small()) {
			t.Error(e, "room of another state's was left")
		}
	}
	// Lists that stand in one piece of memory stay apart.
	room := []int{0, 1, 2, 3, 4, 5, 6}
	s := small()
	s.Lists[2], s.Lists[8], s.Lists[10] = room[:3], room[3:4], room[4:]
	for _, e := range deeds() {
		done := s
		want, _ := reckoned(small(), e)
		if err := Do(&done, e); err != nil || !same(done, want) || !same(s, small()) {
			t.Error(e, err)
		}
	}
}

// P12.1: no two lists of an answer share memory.
func TestListsApart(t *testing.T) {
	for _, e := range deeds() {
		room := []int{0, 1, 2, 3, 4, 5, 6}
		s := small()
		s.Lists[2], s.Lists[8], s.Lists[10] = room[:3], room[3:4], room[4:]
		behind, err := Apply(s, e)
		if err != nil {
			t.Fatal(err)
		}
		held := apart(behind)
		for zone, list := range behind.Lists {
			list = append(list, -1, -1, -1, -1)
			for i := range list {
				list[i] = -1
			}
			for other := range behind.Lists {
				if other != zone && !slices.Equal(behind.Lists[other], held.Lists[other]) {
					t.Fatal(e, zone, other)
				}
			}
			copy(behind.Lists[zone], held.Lists[zone])
		}
	}
}

// P12.1: the document's example.
func TestExample(t *testing.T) {
	e := api.Event{Kind: api.EvPlayer, A: 0, B: api.PLife, C: 20, D: 17}
	if got := Invert(e); got != (api.Event{Kind: api.EvPlayer, A: 0, B: api.PLife, C: 17, D: 20}) {
		t.Error(got)
	}
}
