package journal

import (
	"math"
	"math/rand"
	"slices"
	"testing"

	"mulligan/api"
	"mulligan/event"
	"mulligan/net"
	"mulligan/state"
)

// of is an event by its six numbers.
func of(kind, a, b, c, d, e int) api.Event {
	return api.Event{Kind: kind, A: a, B: b, C: c, D: d, E: e}
}

// life is the event that player 0 has another life.
func life(from, to int) api.Event { return of(3, 0, 0, from, to, 0) }

// many is so many events, each of which differs from the others.
func many(count int) []api.Event {
	var list []api.Event
	for n := range count {
		list = append(list, life(n, n+1))
	}
	return list
}

// wrong are events that may not be, and what layer 12's Check says of them, written out.
var wrong = []struct {
	e   api.Event
	err error
}{
	{of(6, 0, 0, 0, 0, 0), api.ErrKind},
	{of(-1, 0, 0, 0, 0, 0), api.ErrKind},
	{of(0, 0, 0, 0, 1, 0), api.ErrForm},
	{of(5, 0, 0, 0, 0, 1), api.ErrForm},
	{of(4, 1, 0, 0, 0, 0), api.ErrForm},
	{of(0, 120, 0, 0, 0, 0), api.ErrRange},
	{of(1, 0, 0, -1, 0, 0), api.ErrRange},
	{of(2, 0, 3, 0, 1, 0), api.ErrRange},
	{of(3, 0, 0, 0, 1<<30+1, 0), api.ErrRange},
	{of(math.MinInt, math.MaxInt, 0, 0, 0, 0), api.ErrKind},
}

// point is a checkpoint of a model: its number, and all events that stood ahead of it.
type point struct {
	number int
	ahead  []api.Event
}

// model is a journal by the chapter's words, which keeps whole lists, and shares no memory.
type model struct {
	events []api.Event
	points []point
	// next is the number that the next checkpoint gets.
	next int
}

func (m *model) add(list []api.Event) error {
	for i := range list {
		if err := event.Check(list[i]); err != nil {
			return err
		}
	}
	if len(m.events)+len(list) > 65536 {
		return api.ErrFull
	}
	m.events = slices.Concat(m.events, list)
	return nil
}

func (m *model) mark() int {
	m.points = slices.Concat(m.points, []point{{m.next, slices.Clone(m.events)}})
	m.next++
	return m.next - 1
}

// span is the events behind a live checkpoint, and whether it is one.
func (m *model) span(c int) ([]api.Event, bool) {
	for _, p := range m.points {
		if p.number == c {
			return slices.Clone(m.events[len(p.ahead):]), true
		}
	}
	return nil, false
}

// leave puts events in the place of all that stands behind a live checkpoint.
func (m *model) leave(c int, list []api.Event) {
	var kept []point
	for _, p := range m.points {
		if p.number <= c {
			kept = append(kept, p)
		}
		if p.number == c {
			m.events = slices.Concat(p.ahead, list)
		}
	}
	m.points = kept
}

func (m *model) back(c int) ([]api.Event, error) {
	span, live := m.span(c)
	if !live {
		return nil, api.ErrDead
	}
	m.leave(c, nil)
	var undone []api.Event
	for _, e := range span {
		undone = append([]api.Event{event.Invert(e)}, undone...)
	}
	return undone, nil
}

func (m *model) fold(c int) error {
	span, live := m.span(c)
	if !live {
		return api.ErrDead
	}
	m.leave(c, net.Net(span))
	return nil
}

func (m *model) marks() []int {
	var numbers []int
	for _, p := range m.points {
		numbers = append(numbers, p.number)
	}
	return numbers
}

func (m *model) copy() *model {
	return &model{slices.Clone(m.events), slices.Clone(m.points), m.next}
}

// farOff are numbers of no checkpoint.
var farOff = []int{0, -1, -2, math.MinInt, math.MaxInt, 1 << 32, 1<<32 + 1, -1 << 32}

// checkAlike asks of a journal all that can be asked without changing it, and of a model the same.
func checkAlike(t *testing.T, j *Journal, m *model) {
	t.Helper()
	if j.Len() != len(m.events) || j.Next() != m.next || !slices.Equal(j.Marks(), m.marks()) {
		t.Fatal(j.Len(), len(m.events), j.Next(), m.next, j.Marks(), m.marks())
	}
	asked := slices.Clone(farOff)
	for c := 1; c <= m.next+1; c++ {
		asked = append(asked, c)
	}
	for _, c := range asked {
		want, live := m.span(c)
		got, err := j.Span(c)
		if j.Live(c) != live || !slices.Equal(got, want) {
			t.Fatal(c, j.Live(c), live, got, want)
		}
		if live && err != nil || !live && (err != api.ErrDead || got != nil) {
			t.Fatal(c, err, got)
		}
	}
}

// checkBack goes back with a journal and with a model.
func checkBack(t *testing.T, j *Journal, m *model, c int) {
	t.Helper()
	got, err := j.Back(c)
	want, wantErr := m.back(c)
	if err != wantErr || !slices.Equal(got, want) || err != nil && got != nil {
		t.Fatal(c, got, err, want, wantErr)
	}
}

// checkFold folds with a journal and with a model.
func checkFold(t *testing.T, j *Journal, m *model, c int) {
	t.Helper()
	if err, wantErr := j.Fold(c), m.fold(c); err != wantErr {
		t.Fatal(c, err, wantErr)
	}
}

// checkAdd adds to a journal and to a model.
func checkAdd(t *testing.T, j *Journal, m *model, list ...api.Event) {
	t.Helper()
	if err, wantErr := j.Add(list...), m.add(list); err != wantErr {
		t.Fatal(len(list), err, wantErr)
	}
}

// checkMark marks a journal and a model.
func checkMark(t *testing.T, j *Journal, m *model) {
	t.Helper()
	if got, want := j.Mark(), m.mark(); got != want {
		t.Fatal(got, want)
	}
}

// P14.1: the chapter's example, and what stands behind it.
func TestExample(t *testing.T) {
	j := New()
	if c := j.Mark(); c != 1 {
		t.Fatal(c)
	}
	if err := j.Add(life(20, 17), of(1, 5, 2, 0, 8, 3)); err != nil {
		t.Fatal(err)
	}
	if c := j.Mark(); c != 2 || !j.Live(2) {
		t.Fatal(c)
	}
	undone, err := j.Back(1)
	if err != nil || !slices.Equal(undone, []api.Event{of(1, 5, 8, 3, 2, 0), life(17, 20)}) {
		t.Fatal(undone, err)
	}
	if j.Live(2) || !j.Live(1) || j.Len() != 0 || j.Next() != 3 || !slices.Equal(j.Marks(), []int{1}) {
		t.Fatal(j.Live(2), j.Live(1), j.Len(), j.Next(), j.Marks())
	}
	if c := j.Mark(); c != 3 || j.Live(2) || !slices.Equal(j.Marks(), []int{1, 3}) {
		t.Fatal(c, j.Marks())
	}
}

// P14.1: a new journal has no events and no checkpoints, and is another one each time.
func TestNew(t *testing.T) {
	j := New()
	if j == nil {
		t.Fatal("no journal")
	}
	if j.Len() != 0 || j.Next() != 1 || len(j.Marks()) != 0 {
		t.Fatal(j.Len(), j.Next(), j.Marks())
	}
	for _, c := range append([]int{1, 2, 3}, farOff...) {
		if span, err := j.Span(c); span != nil || err != api.ErrDead || j.Live(c) {
			t.Error(c, span, err)
		}
		if undone, err := j.Back(c); undone != nil || err != api.ErrDead {
			t.Error(c, undone, err)
		}
		if err := j.Fold(c); err != api.ErrDead {
			t.Error(c, err)
		}
	}
	j.Mark()
	j.Add(life(1, 2))
	if other := New(); other == j || other.Len() != 0 || other.Next() != 1 || len(other.Marks()) != 0 {
		t.Error("a new journal isn't new")
	}
}

// P14.1: a journal that isn't there answers what the chapter says, at all arguments and in any order.
func TestNil(t *testing.T) {
	var j *Journal
	for range 2 {
		for _, list := range [][]api.Event{nil, {}, {life(20, 17)}, {of(6, 0, 0, 0, 0, 0)}, {life(1, 2), of(0, 120, 0, 0, 0, 0)}, many(65536), many(65537)} {
			if err := j.Add(list...); err != api.ErrNone {
				t.Error(len(list), err)
			}
		}
		if c := j.Mark(); c != 0 {
			t.Error(c)
		}
		for _, c := range append([]int{1, 2}, farOff...) {
			if j.Live(c) {
				t.Error(c, "is live")
			}
			if span, err := j.Span(c); span != nil || err != api.ErrDead {
				t.Error(c, span, err)
			}
			if undone, err := j.Back(c); undone != nil || err != api.ErrDead {
				t.Error(c, undone, err)
			}
			if err := j.Fold(c); err != api.ErrDead {
				t.Error(c, err)
			}
		}
		if n := j.Len(); n != 0 {
			t.Error(n)
		}
		if numbers := j.Marks(); len(numbers) != 0 {
			t.Error(numbers)
		}
		if n := j.Next(); n != 0 {
			t.Error(n)
		}
		if twin := j.Copy(); twin != nil {
			t.Error(twin)
		}
	}
}

// P14.1: events stand behind the others, in order, however many are told at once; none at all is right, too.
func TestAdd(t *testing.T) {
	j := New()
	j.Mark()
	all := []api.Event{life(20, 17), of(0, 65, 1, 2, 0, 0), of(5, 65, 1, 2, 0, 0), of(4, 0, 5, 0, 1, 0), of(2, 399, 17, -9, 1<<30, 0), of(1, 0, 0, 0, 10, 0), life(20, 17)}
	for _, list := range [][]api.Event{all[:1], nil, all[1:3], {}, all[3:]} {
		if err := j.Add(list...); err != nil {
			t.Fatal(list, err)
		}
	}
	if err := j.Add(); err != nil {
		t.Fatal(err)
	}
	if span, err := j.Span(1); err != nil || !slices.Equal(span, all) || j.Len() != 7 {
		t.Fatal(span, err, j.Len())
	}
}

// P14.1: of events that may not be the first one's error is told, wherever it stands, and none is added.
func TestAddWrong(t *testing.T) {
	j, m := New(), &model{next: 1}
	checkMark(t, j, m)
	checkAdd(t, j, m, life(20, 17))
	checkMark(t, j, m)
	for _, first := range wrong {
		for place := range 4 {
			for _, later := range wrong {
				list := append(many(place), first.e, life(1, 2), later.e)
				if err := j.Add(list...); err != first.err {
					t.Fatal(list, err, first.err)
				}
			}
			if err := j.Add(append(many(place), first.e)...); err != first.err {
				t.Fatal(place, err, first.err)
			}
		}
	}
	checkAlike(t, j, m)
}

// P14.1: 65536 events are as many as there may be, told at once or not; an event that may not be is told ahead of that.
func TestFull(t *testing.T) {
	all := many(65537)
	for _, had := range []int{0, 1, 2, 1000, 65535, 65536} {
		j, m := New(), &model{next: 1}
		checkMark(t, j, m)
		checkAdd(t, j, m, all[:had]...)
		checkMark(t, j, m)
		room := 65536 - had
		if err := j.Add(all[:room+1]...); err != api.ErrFull {
			t.Fatal(had, err)
		}
		if err := j.Add(append(slices.Clone(all), all...)...); err != api.ErrFull {
			t.Fatal(had, err)
		}
		for _, w := range wrong {
			if err := j.Add(append(slices.Clone(all[:room+1]), w.e)...); err != w.err {
				t.Fatal(had, err, w.err)
			}
		}
		if j.Len() != had {
			t.Fatal(j.Len(), had)
		}
		checkAdd(t, j, m, all[:room]...)
		if j.Len() != 65536 {
			t.Fatal(j.Len())
		}
		if err := j.Add(life(1, 2)); err != api.ErrFull {
			t.Fatal(had, err)
		}
		if err := j.Add(of(6, 0, 0, 0, 0, 0)); err != api.ErrKind {
			t.Fatal(had, err)
		}
		if err := j.Add(); err != nil {
			t.Fatal(had, err)
		}
		checkMark(t, j, m)
		checkAlike(t, j, m)
	}
}

// P14.1: what went back, or was folded, leaves room for as many events as went.
func TestRoomAgain(t *testing.T) {
	all := many(65536)
	j := New()
	j.Add(all[:100]...)
	c := j.Mark()
	j.Add(all[:65436]...)
	if undone, err := j.Back(c); err != nil || len(undone) != 65436 || undone[0] != life(65436, 65435) || undone[65435] != life(1, 0) {
		t.Fatal(len(undone), err)
	}
	if err := j.Add(all[:65437]...); err != api.ErrFull || j.Len() != 100 {
		t.Fatal(err, j.Len())
	}
	if err := j.Add(all[:65436]...); err != nil || j.Len() != 65536 {
		t.Fatal(err, j.Len())
	}
	if err := j.Fold(c); err != nil || j.Len() != 101 {
		t.Fatal(err, j.Len())
	}
	if span, err := j.Span(c); err != nil || !slices.Equal(span, []api.Event{life(0, 65436)}) {
		t.Fatal(span, err)
	}
	if err := j.Add(all[:65436]...); err != api.ErrFull || j.Len() != 101 {
		t.Fatal(err, j.Len())
	}
	if err := j.Add(all[:65435]...); err != nil || j.Len() != 65536 {
		t.Fatal(err, j.Len())
	}
}

// P14.1, P14.2: numbers rise from 1 on, and those of checkpoints that went aren't given again, though others went with them.
func TestNumbers(t *testing.T) {
	j := New()
	for _, step := range []struct {
		call    string
		c, next int
		marks   []int
	}{
		{"mark", 1, 2, []int{1}},
		{"mark", 2, 3, []int{1, 2}},
		{"mark", 3, 4, []int{1, 2, 3}},
		{"back", 3, 4, []int{1, 2, 3}},
		{"back", 2, 4, []int{1, 2}},
		{"mark", 4, 5, []int{1, 2, 4}},
		{"mark", 5, 6, []int{1, 2, 4, 5}},
		{"fold", 4, 6, []int{1, 2, 4}},
		{"mark", 6, 7, []int{1, 2, 4, 6}},
		{"back", 1, 7, []int{1}},
		{"back", 1, 7, []int{1}},
		{"mark", 7, 8, []int{1, 7}},
		{"fold", 1, 8, []int{1}},
		{"fold", 1, 8, []int{1}},
		{"mark", 8, 9, []int{1, 8}},
	} {
		switch step.call {
		case "mark":
			if next := j.Next(); next != step.c {
				t.Fatal(step, next)
			}
			if c := j.Mark(); c != step.c {
				t.Fatal(step, c)
			}
		case "back":
			if undone, err := j.Back(step.c); err != nil || len(undone) != 0 {
				t.Fatal(step, undone, err)
			}
		case "fold":
			if err := j.Fold(step.c); err != nil {
				t.Fatal(step, err)
			}
		}
		if j.Next() != step.next || !slices.Equal(j.Marks(), step.marks) {
			t.Fatal(step, j.Next(), j.Marks())
		}
		for c := -1; c < 12; c++ {
			if j.Live(c) != slices.Contains(step.marks, c) {
				t.Fatal(step, c, j.Live(c))
			}
		}
	}
}

// deeds are events of each kind, of which some set again what others set.
func deeds() []api.Event {
	return []api.Event{
		life(20, 17),
		of(2, 3, 4, 0, 1, 0),
		of(1, 3, 2, 1, 8, 0),
		life(17, 15),
		of(0, 65, 1, 2, 0, 0),
		of(2, 6, 7, 0, 5, 0),
		of(2, 6, 7, 5, 0, 0),
		life(15, 14),
	}
}

// ofDeeds is a journal with the deeds: 1 ahead of them, 2 and 3 behind the second one, 4 behind the sixth one, 5 behind all.
func ofDeeds() *Journal {
	j, all := New(), deeds()
	j.Mark()
	j.Add(all[:2]...)
	j.Mark()
	j.Mark()
	j.Add(all[2:6]...)
	j.Mark()
	j.Add(all[6:]...)
	j.Mark()
	return j
}

// P14.1, P14.2: going back gives just what was added behind the checkpoint, undone, and greater checkpoints go, even of the same place.
func TestBack(t *testing.T) {
	undone := []api.Event{
		life(14, 15),
		of(2, 6, 7, 0, 5, 0),
		of(2, 6, 7, 5, 0, 0),
		of(5, 65, 1, 2, 0, 0),
		life(15, 17),
		of(1, 3, 8, 0, 2, 1),
		of(2, 3, 4, 1, 0, 0),
		life(17, 20),
	}
	for _, c := range []struct {
		number, left int
		marks        []int
	}{
		{5, 8, []int{1, 2, 3, 4, 5}},
		{4, 6, []int{1, 2, 3, 4}},
		{3, 2, []int{1, 2, 3}},
		{2, 2, []int{1, 2}},
		{1, 0, []int{1}},
	} {
		j := ofDeeds()
		got, err := j.Back(c.number)
		if err != nil || !slices.Equal(got, undone[:8-c.left]) {
			t.Error(c, got, err)
		}
		if j.Len() != c.left || j.Next() != 6 || !slices.Equal(j.Marks(), c.marks) {
			t.Error(c, j.Len(), j.Next(), j.Marks())
		}
		if span, err := j.Span(1); err != nil || !slices.Equal(span, deeds()[:c.left]) {
			t.Error(c, span, err)
		}
		// It stays live, and nothing is behind it any more.
		if got, err := j.Back(c.number); err != nil || len(got) != 0 || !slices.Equal(j.Marks(), c.marks) {
			t.Error(c, got, err)
		}
		for dead := c.number + 1; dead < 9; dead++ {
			if got, err := j.Back(dead); err != api.ErrDead || got != nil || j.Len() != c.left {
				t.Error(c, dead, got, err)
			}
		}
	}
}

// P14.1: what stands behind a checkpoint is told from there on, up to the last event.
func TestSpan(t *testing.T) {
	j := ofDeeds()
	for c, from := range map[int]int{1: 0, 2: 2, 3: 2, 4: 6, 5: 8} {
		if span, err := j.Span(c); err != nil || !slices.Equal(span, deeds()[from:]) {
			t.Error(c, span, err)
		}
	}
	for _, c := range append([]int{6, 7}, farOff...) {
		if span, err := j.Span(c); err != api.ErrDead || span != nil {
			t.Error(c, span, err)
		}
	}
}

// P14.1: folding leaves the net of what stands behind the checkpoint; what stands ahead of it stays as it is.
func TestFold(t *testing.T) {
	all := deeds()
	net1 := []api.Event{of(1, 3, 2, 1, 8, 0), life(20, 15), of(2, 3, 4, 0, 1, 0), of(0, 65, 1, 2, 0, 0), life(15, 14)}
	net2 := []api.Event{of(1, 3, 2, 1, 8, 0), life(17, 15), of(0, 65, 1, 2, 0, 0), life(15, 14)}
	for _, c := range []struct {
		number int
		want   []api.Event
		marks  []int
	}{
		{5, all, []int{1, 2, 3, 4, 5}},
		{4, slices.Concat(all[:6], []api.Event{of(2, 6, 7, 5, 0, 0), life(15, 14)}), []int{1, 2, 3, 4}},
		{3, slices.Concat(all[:2], net2), []int{1, 2, 3}},
		{2, slices.Concat(all[:2], net2), []int{1, 2}},
		{1, net1, []int{1}},
	} {
		j := ofDeeds()
		for range 2 {
			if err := j.Fold(c.number); err != nil {
				t.Error(c.number, err)
			}
			if span, err := j.Span(1); err != nil || !slices.Equal(span, c.want) || j.Len() != len(c.want) {
				t.Error(c.number, span, err, j.Len())
			}
			if j.Next() != 6 || !slices.Equal(j.Marks(), c.marks) {
				t.Error(c.number, j.Next(), j.Marks())
			}
		}
		for _, dead := range append([]int{c.number + 1, 6, 7}, farOff...) {
			if err := j.Fold(dead); err != api.ErrDead || j.Len() != len(c.want) || !slices.Equal(j.Marks(), c.marks) {
				t.Error(c.number, dead, err)
			}
		}
		// What is added then stands behind the net.
		j.Add(life(14, 3))
		if span, err := j.Span(1); err != nil || !slices.Equal(span, slices.Concat(c.want, []api.Event{life(14, 3)})) {
			t.Error(c.number, span, err)
		}
	}
}

// P14.1: what cancels itself is folded to nothing, and the checkpoint is live still.
func TestFoldToNothing(t *testing.T) {
	j := New()
	j.Add(life(20, 19))
	c := j.Mark()
	j.Add(life(19, 17))
	dead := j.Mark()
	j.Add(life(17, 19))
	if err := j.Fold(c); err != nil || j.Len() != 1 || !j.Live(c) || j.Live(dead) {
		t.Fatal(err, j.Len(), j.Marks())
	}
	if undone, err := j.Back(c); err != nil || len(undone) != 0 || j.Len() != 1 {
		t.Fatal(undone, err, j.Len())
	}
}

// P14.1: a copy is like the journal, and neither is changed with the other, whichever comes first.
func TestCopy(t *testing.T) {
	turns := []func(*Journal){
		func(j *Journal) { j.Mark() },
		func(j *Journal) { j.Add(life(14, 1)) },
		func(j *Journal) { j.Add(many(40)...) },
		func(j *Journal) { j.Back(1) },
		func(j *Journal) { j.Back(4) },
		func(j *Journal) { j.Fold(1) },
		func(j *Journal) { j.Fold(4) },
		func(j *Journal) { j.Back(2); j.Mark(); j.Add(life(9, 8), life(8, 7)); j.Mark() },
	}
	m := &model{next: 1}
	m.mark()
	m.add(deeds()[:2])
	m.mark()
	m.mark()
	m.add(deeds()[2:6])
	m.mark()
	m.add(deeds()[6:])
	m.mark()
	for _, turn := range turns {
		for _, other := range turns {
			j := ofDeeds()
			twin := j.Copy()
			if twin == j {
				t.Fatal("no other one")
			}
			checkAlike(t, twin, m)
			turn(j)
			checkAlike(t, twin, m)
			lone := ofDeeds()
			turn(lone)
			other(twin)
			if !slices.Equal(j.Marks(), lone.Marks()) || j.Next() != lone.Next() || j.Len() != lone.Len() {
				t.Fatal("the journal was changed with its copy")
			}
			got, _ := j.Span(1)
			want, _ := lone.Span(1)
			if !slices.Equal(got, want) {
				t.Fatal("the journal was changed with its copy", got, want)
			}
		}
	}
	if twin := New().Copy(); twin == nil || twin.Len() != 0 || twin.Next() != 1 || len(twin.Marks()) != 0 {
		t.Error("no copy of an empty journal")
	}
}

// P14.1: what is added to a journal and what is added to its copy don't meet, however much room either has.
func TestCopyRoom(t *testing.T) {
	for had := range 40 {
		j, m := New(), &model{next: 1}
		for n := range had {
			checkAdd(t, j, m, life(n, n+1))
			checkMark(t, j, m)
		}
		twin, like := j.Copy(), m.copy()
		checkAdd(t, j, m, life(1, 2))
		checkMark(t, j, m)
		checkAdd(t, twin, like, life(3, 4), life(5, 6))
		checkMark(t, twin, like)
		checkAlike(t, j, m)
		checkAlike(t, twin, like)
		third, thirdLike := j.Copy(), m.copy()
		checkBack(t, j, m, 1)
		checkAdd(t, j, m, many(3)...)
		checkMark(t, j, m)
		checkAlike(t, third, thirdLike)
		checkFold(t, twin, like, 1)
		checkAlike(t, j, m)
		checkAlike(t, twin, like)
	}
}

// P14.1: of a copy and its journal, each gives its own next number.
func TestCopyNumbers(t *testing.T) {
	j := New()
	j.Mark()
	j.Mark()
	j.Back(1)
	twin := j.Copy()
	if a, b := j.Mark(), twin.Mark(); a != 3 || b != 3 || !slices.Equal(twin.Marks(), []int{1, 3}) {
		t.Error(a, b, twin.Marks())
	}
	if j.Mark(); twin.Next() != 4 || j.Next() != 5 || twin.Live(4) {
		t.Error(twin.Next(), j.Next())
	}
}

// wipe writes over a list of events, its spare room too.
func wipe(list []api.Event) {
	list = list[:cap(list)]
	for i := range list {
		list[i] = of(-7, -7, -7, -7, -7, -7)
	}
}

// P14.1 (P1): events that are handed in are neither changed nor kept, nor is their spare room, whatever is done with the journal then.
func TestHandedIn(t *testing.T) {
	ends := of(-7, -7, -7, -7, -7, -7)
	for count := range len(deeds()) + 1 {
		for _, had := range []int{0, 1, 5} {
			whole := append(deeds(), ends, ends)
			held := slices.Clone(whole)
			j := New()
			j.Mark()
			j.Add(many(had)...)
			c := j.Mark()
			if err := j.Add(whole[:count]...); err != nil {
				t.Fatal(err)
			}
			want, _ := j.Span(1)
			j.Add(life(1, 2), life(2, 1))
			j.Fold(c)
			j.Back(c)
			j.Add(life(3, 4))
			j.Back(1)
			j.Add(many(20)...)
			if !slices.Equal(whole, held) {
				t.Fatal(count, had, "what was handed in was changed")
			}
			j = New()
			j.Mark()
			j.Add(many(had)...)
			j.Add(whole[:count]...)
			wipe(whole)
			if span, err := j.Span(1); err != nil || !slices.Equal(span, want) {
				t.Fatal(count, had, "what was handed in is kept")
			}
		}
	}
}

// P14.1 (P1): an answer is new memory: what is done to it changes neither the journal nor another answer, and the journal's ways don't change it.
func TestAnswersApart(t *testing.T) {
	for _, ask := range []func(*Journal) []api.Event{
		func(j *Journal) []api.Event { list, _ := j.Span(1); return list },
		func(j *Journal) []api.Event { list, _ := j.Span(3); return list },
		func(j *Journal) []api.Event { list, _ := j.Span(5); return list },
		func(j *Journal) []api.Event { list, _ := j.Back(1); return list },
		func(j *Journal) []api.Event { list, _ := j.Back(3); return list },
		func(j *Journal) []api.Event { list, _ := j.Back(5); return list },
	} {
		j := ofDeeds()
		twin := j.Copy()
		answer, again := ask(j), ask(twin)
		want := slices.Clone(answer)
		held, _ := j.Span(1)
		held = slices.Clone(held)
		wipe(again)
		if !slices.Equal(answer, want) {
			t.Fatal("two answers share memory")
		}
		wipe(answer)
		if span, _ := j.Span(1); !slices.Equal(span, held) {
			t.Fatal("an answer is the journal's own memory")
		}
		j = ofDeeds()
		answer = ask(j)
		j.Add(many(5)...)
		j.Fold(1)
		j.Back(1)
		j.Add(many(30)...)
		if !slices.Equal(answer, want) {
			t.Fatal("an answer changes with the journal")
		}
	}
	j := ofDeeds()
	numbers, more := j.Marks(), j.Marks()
	for _, list := range [][]int{numbers[:cap(numbers)], more[:cap(more)]} {
		for i := range list {
			list[i] = -7
		}
		if !slices.Equal(j.Marks(), []int{1, 2, 3, 4, 5}) {
			t.Fatal("the checkpoints are handed out")
		}
	}
	numbers, more = j.Marks(), j.Marks()
	numbers[0] = -7
	j.Back(2)
	j.Mark()
	if !slices.Equal(more, []int{1, 2, 3, 4, 5}) {
		t.Fatal("an answer changes with the journal", more)
	}
}

// P14.1, P14.2: what went back is written over by nothing that is added then, nor is what a copy has.
func TestWrittenOver(t *testing.T) {
	for left := range 8 {
		j, m := New(), &model{next: 1}
		checkMark(t, j, m)
		checkAdd(t, j, m, many(left)...)
		checkMark(t, j, m)
		checkAdd(t, j, m, deeds()...)
		span, _ := j.Span(1)
		twin, like := j.Copy(), m.copy()
		checkBack(t, j, m, 2)
		checkAdd(t, j, m, life(5, 6), life(6, 7))
		checkAlike(t, j, m)
		checkAlike(t, twin, like)
		checkFold(t, twin, like, 1)
		checkAdd(t, twin, like, life(5, 6))
		checkAlike(t, j, m)
		checkAlike(t, twin, like)
		if !slices.Equal(span, slices.Concat(many(left), deeds())) {
			t.Fatal(left, span)
		}
	}
}

// P14.2 (and the way of this layer): what is cut off leaves no room behind it.
func TestNoRoomBehind(t *testing.T) {
	for c := 1; c <= 5; c++ {
		j := ofDeeds()
		j.Back(c)
		if cap(j.events) != len(j.events) || cap(j.live) != len(j.live) {
			t.Error(c, cap(j.events), len(j.events), cap(j.live), len(j.live))
		}
	}
}

// P14.1, P14.2: in any order of up to six calls of a few sorts, all answer as the model does.
func TestAllOrders(t *testing.T) {
	calls := []func(*Journal, *model){
		func(j *Journal, m *model) { checkMark(t, j, m) },
		func(j *Journal, m *model) { checkAdd(t, j, m, life(20, 17)) },
		func(j *Journal, m *model) { checkAdd(t, j, m, life(17, 20), of(0, 1, 1, 1, 0, 0)) },
		func(j *Journal, m *model) { checkAdd(t, j, m, life(20, 17), of(0, 1, 1, 1, 1, 0)) },
		func(j *Journal, m *model) { checkBack(t, j, m, 1) },
		func(j *Journal, m *model) { checkBack(t, j, m, 2) },
		func(j *Journal, m *model) { checkFold(t, j, m, 1) },
		func(j *Journal, m *model) { checkFold(t, j, m, 2) },
	}
	var grow func(j *Journal, m *model, deep int)
	grow = func(j *Journal, m *model, deep int) {
		checkAlike(t, j, m)
		if deep == 6 {
			return
		}
		for _, call := range calls {
			next, like := j.Copy(), m.copy()
			call(next, like)
			grow(next, like, deep+1)
		}
		checkAlike(t, j, m)
	}
	grow(New(), &model{next: 1}, 0)
}

// anyEvent is an event, which may be but for one of some twenty.
func anyEvent(r *rand.Rand) api.Event {
	if r.Intn(20) == 0 {
		return wrong[r.Intn(len(wrong))].e
	}
	switch r.Intn(6) {
	case 0:
		return of(5*r.Intn(2), r.Intn(120), r.Intn(2), r.Intn(3), 0, 0)
	case 1:
		return of(1, r.Intn(400), r.Intn(11), r.Intn(9), r.Intn(11), r.Intn(9))
	case 2:
		return of(4, 0, r.Intn(7), r.Intn(3), r.Intn(3), 0)
	}
	return of(2+r.Intn(2), r.Intn(2), r.Intn(3), r.Intn(3), r.Intn(3), 0)
}

// P14.1, P14.2: in long rows of calls with whatever events and numbers, all answer as the model does.
func TestWhatever(t *testing.T) {
	r := rand.New(rand.NewSource(14))
	went, folded := 0, 0
	for range 200 {
		j, m := New(), &model{next: 1}
		for range 120 {
			c := r.Intn(m.next+3) - 1
			if live := m.marks(); len(live) > 0 && r.Intn(3) > 0 {
				c = live[r.Intn(len(live))]
			}
			had := len(m.events)
			switch r.Intn(12) {
			case 0, 1, 2, 3:
				var list []api.Event
				for range r.Intn(7) {
					list = append(list, anyEvent(r))
				}
				checkAdd(t, j, m, list...)
			case 4, 5, 6, 7:
				checkMark(t, j, m)
			case 8, 9:
				checkBack(t, j, m, c)
				went += had - len(m.events)
			case 10:
				checkFold(t, j, m, c)
				folded += had - len(m.events)
			case 11:
				twin, like := j.Copy(), m.copy()
				checkBack(t, twin, like, c)
				checkAdd(t, twin, like, life(1, 2))
				checkAlike(t, twin, like)
			}
			checkAlike(t, j, m)
		}
	}
	if went < 1000 || folded < 1000 {
		t.Error("only", went, "events went, and", folded, "were folded")
	}
}

// P14.1: thousands of checkpoints are told apart, and go together.
func TestManyMarks(t *testing.T) {
	j := New()
	for c := 1; c <= 70000; c++ {
		if j.Next() != c || j.Mark() != c {
			t.Fatal(c)
		}
		if c%2 == 0 && c <= 20000 {
			j.Add(life(c, c+1))
		}
	}
	for c := 1; c <= 70000; c++ {
		if !j.Live(c) {
			t.Fatal(c)
		}
	}
	for _, c := range []int{1, 2, 3, 4, 9999, 10000, 10001, 19999, 20000, 20001, 70000} {
		span, err := j.Span(c)
		want := max(10000-(c-1)/2, 0)
		if err != nil || len(span) != want {
			t.Fatal(c, len(span), want, err)
		}
	}
	if undone, err := j.Back(10000); err != nil || len(undone) != 5001 || j.Len() != 4999 || len(j.Marks()) != 10000 || j.Live(10001) || j.Next() != 70001 {
		t.Fatal(len(undone), err, j.Len(), len(j.Marks()), j.Next())
	}
}

// anyRight is an event that may be done on a state each of whose objects stands where it says.
func anyRight(r *rand.Rand, s api.State) api.Event {
	count := len(s.Objects)
	switch kind := r.Intn(8); {
	case kind == 0:
		return of(0, r.Intn(120), r.Intn(2), r.Intn(3), 0, 0)
	case kind == 1 && count > 0:
		last := s.Objects[count-1]
		return of(5, last[0], last[1], last[13], 0, 0)
	case kind <= 3 && count > 0:
		id := r.Intn(count)
		from, to := s.Objects[id][3], r.Intn(11)
		room := len(s.Lists[to]) + 1
		if to == from {
			room--
		}
		return of(1, id, from, slices.Index(s.Lists[from], id), to, r.Intn(room))
	case kind <= 5 && count > 0:
		id, field := r.Intn(count), 4+r.Intn(14)
		return of(2, id, field, s.Objects[id][field], r.Intn(3), 0)
	}
	player, field := r.Intn(2), r.Intn(9)
	return of(3, player, field, s.Players[player][field], r.Intn(3), 0)
}

// P14.2: what goes back leads a state to what it was when the checkpoint was made, folded or not; what stands behind leads there again.
func TestThereAndBack(t *testing.T) {
	r := rand.New(rand.NewSource(142))
	went := 0
	for range 300 {
		j, now := New(), state.New()
		then := map[int]api.State{}
		for range 60 {
			switch r.Intn(6) {
			case 0, 1, 2, 3:
				e := anyRight(r, now)
				if behind, err := event.Apply(now, e); err == nil && j.Add(e) == nil {
					now = behind
				}
			case 4:
				then[j.Mark()] = state.Copy(now)
			case 5:
				live := j.Marks()
				if len(live) == 0 {
					break
				}
				c := live[r.Intn(len(live))]
				if r.Intn(2) == 0 {
					if err := j.Fold(c); err != nil {
						t.Fatal(err)
					}
					break
				}
				undone, err := j.Back(c)
				before, _, wrong := net.Run(now, undone)
				if err != nil || wrong != nil || !state.Same(before, then[c]) {
					t.Fatal(c, err, wrong)
				}
				now = before
				went += len(undone)
			}
			for _, c := range j.Marks() {
				span, _ := j.Span(c)
				behind, _, err := net.Run(then[c], span)
				if err != nil || !state.Same(behind, now) {
					t.Fatal(c, err)
				}
			}
		}
	}
	if went < 1000 {
		t.Error("only", went, "events went")
	}
}
