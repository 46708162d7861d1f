package shape

import (
	"maps"
	"math"
	"math/rand"
	"slices"
	"testing"

	"mulligan/api"
	"mulligan/state"
	"mulligan/table"
)

// far are numbers that no object, player, group or word has.
var far = []int{
	math.MinInt, math.MinInt + 1, -1 << 62, -1<<32 + 1, -1 << 32, -1 << 30, -401, -400, -257, -256, -255, -128, -2, -1,
	256, 257, 384, 400, 401, 511, 512, 513, 1 << 30, 1<<30 + 1, 1 << 32, 1<<32 + 1, 1 << 62, math.MaxInt - 1, math.MaxInt,
}

// law is a card's static: what it does to which group, by which numbers.
type law struct{ op, group, n, m int }

// laws are the statics that there are, by their cards, as the chapter of the table tells them; each card has one.
var laws = map[int]law{
	80: {api.Pump, 1, 0, 2}, 81: {api.Grant, 1, 1, 0}, 82: {api.Pump, 2, -1, 0}, 83: {api.Pump, 1, 1, 0}, 84: {api.Pump, 1, 1, 1},
	95: {api.Strip, 0, 1, 0}, 97: {api.Become, 2, 1, 1},
}

// printed are the shapes that stand on the Beasts, by their cards.
var printed = read()

// read are those shapes as the chapter of the table tells them.
func read() map[int]Shape {
	list := map[int]Shape{
		108: {1, 1, 0}, 111: {2, 3, 5},
		112: {1, 1, 0}, 113: {1, 1, 1}, 114: {2, 2, 0}, 115: {2, 2, 1}, 116: {3, 3, 0}, 117: {3, 3, 1}, 118: {4, 4, 0}, 119: {4, 4, 1},
	}
	for k, row := range []Shape{{1, 1, 1}, {1, 2, 2}, {2, 2, 4}, {2, 3, 8}, {3, 3, 16}, {3, 4, 32}, {4, 4, 64}, {4, 5, 128}} {
		for c := range 5 {
			list[10+5*k+c] = row
		}
		list[13+5*k] = Shape{row.Power + 1, row.Tough, row.Words}
		list[14+5*k] = Shape{row.Power, row.Tough + 1, row.Words}
	}
	return list
}

// isBeast tells whether a card is a Beast, by the chapter of the table.
func isBeast(n int) bool {
	_, ok := printed[n]
	return ok
}

// on is a card on the field under a player's control, which is the other one's.
func on(n, control int) api.Object { return api.Object{0: n, 1: 1 - control, 2: control, 3: 8} }

// in is a card in a list, in one of a player's own as that one's.
func in(n, zone int) api.Object {
	o := api.Object{0: n, 3: zone}
	if zone < 8 {
		o[1], o[2] = zone%2, zone%2
	}
	return o
}

// with is an object with other numbers in some fields, told as field, number, and so on.
func with(o api.Object, fields ...int) api.Object {
	for at := 0; at < len(fields); at += 2 {
		o[fields[at]] = fields[at+1]
	}
	return o
}

// holding is the state of objects, each of which stands in the list that it says, in the order of their numbers.
func holding(objects ...api.Object) api.State {
	s := api.State{Objects: slices.Clone(objects)}
	for id, o := range objects {
		if zone := o[3]; zone >= 0 && zone < 11 {
			s.Lists[zone] = append(s.Lists[zone], id)
		}
	}
	return s
}

// lined is a state whose field's list has this order.
func lined(s api.State, field ...int) api.State {
	s.Lists[8] = field
	return s
}

// lastOf is the last one of the field's statics of whose group a creature is and that fit a rule, and whether there is one.
func lastOf(s api.State, id int, fits func(l law) bool) (law, bool) {
	for place := len(s.Lists[8]) - 1; place >= 0; place-- {
		source := s.Lists[8][place]
		l, ok := laws[s.Objects[source][0]]
		if ok && concerns(s, l.group, source, id) && fits(l) {
			return l, true
		}
	}
	return law{}, false
}

// pairs are, by groups, which control a source has, and which a creature of its group.
var pairs = [4][][2]int{{{0, 0}, {0, 1}, {1, 0}, {1, 1}}, {{0, 0}, {1, 1}}, {{0, 1}, {1, 0}}, {{0, 0}, {1, 1}}}

// concerns tells whether a creature is of a source's group.
func concerns(s api.State, group, source, id int) bool {
	pair := [2]int{s.Objects[source][2], s.Objects[id][2]}
	return slices.Contains(pairs[group], pair) && !(group == 3 && source == id)
}

// reckoned is a creature's shape by the chapter's words: what was said last of a number or of a word counts, and what is added is counted apart.
func reckoned(s api.State, id int) Shape {
	o := s.Objects[id]
	shape := printed[o[0]]
	if l, ok := lastOf(s, id, func(l law) bool { return l.op == api.Become }); ok {
		shape.Power, shape.Tough = l.n, l.m
	}
	for source := range s.Objects {
		l, ok := laws[s.Objects[source][0]]
		if ok && s.Objects[source][3] == 8 && l.op == api.Pump && concerns(s, l.group, source, id) {
			shape.Power, shape.Tough = shape.Power+l.n, shape.Tough+l.m
		}
	}
	shape.Power, shape.Tough = shape.Power+o[7]+o[8], shape.Tough+o[7]+o[9]
	words := 0
	for _, word := range []int{1, 2, 4, 8, 16, 32, 64, 128} {
		has := shape.Words/word%2 == 1
		if l, ok := lastOf(s, id, func(l law) bool { return (l.op == api.Grant || l.op == api.Strip) && l.n/word%2 == 1 }); ok {
			has = l.op == api.Grant
		}
		if has || o[10]/word%2 == 1 {
			words += word
		}
	}
	shape.Words = words
	return shape
}

// checkRight asks all six calls of a right state, of each object and of some that there are not.
func checkRight(t *testing.T, s api.State) {
	t.Helper()
	if err := state.Check(s); err != nil {
		t.Fatal("the state isn't right", err, s)
	}
	statics := 0
	var beasts [2][]int
	for _, id := range s.Lists[8] {
		o := s.Objects[id]
		if _, ok := laws[o[0]]; ok {
			statics++
		}
		if isBeast(o[0]) {
			beasts[o[2]] = append(beasts[o[2]], id)
		}
	}
	if got := Statics(s); got != statics {
		t.Fatal(got, "statics, not", statics, s)
	}
	for player, want := range beasts {
		if got := Beasts(s, player); !slices.Equal(got, want) {
			t.Fatal(player, got, want, s)
		}
	}
	for id, o := range s.Objects {
		if o[3] == 8 && isBeast(o[0]) {
			checkCreature(t, s, id, reckoned(s, id))
		} else {
			checkNone(t, s, id, api.ErrNone)
		}
	}
	checkNone(t, s, -1, api.ErrNone)
	checkNone(t, s, len(s.Objects), api.ErrNone)
}

// checkCreature asks of a creature that it is one, and has this shape.
func checkCreature(t *testing.T, s api.State, id int, want Shape) {
	t.Helper()
	if got, err := Of(s, id); err != nil || got != want {
		t.Fatal(id, got, err, want, s)
	}
	if !Is(s, id) {
		t.Fatal(id, "is no creature", s)
	}
	if got, err := Left(s, id); err != nil || got != want.Tough-s.Objects[id][6] {
		t.Fatal(id, got, err, want, s)
	}
	for _, word := range []int{1, 2, 4, 8, 16, 32, 64, 128} {
		if got := Has(s, id, word); got != (want.Words/word%2 == 1) {
			t.Fatal(id, word, got, want, s)
		}
	}
	if got := Has(s, id, want.Words); got != (want.Words != 0) {
		t.Fatal(id, got, want, s)
	}
}

// checkNone asks of what is no creature of a right state that it is none, by this error.
func checkNone(t *testing.T, s api.State, id int, want error) {
	t.Helper()
	if got, err := Of(s, id); err != want || got != (Shape{}) {
		t.Fatal(id, got, err, want, s)
	}
	if got, err := Left(s, id); err != want || got != 0 {
		t.Fatal(id, got, err, want, s)
	}
	if Is(s, id) {
		t.Fatal(id, "is a creature", s)
	}
	for _, word := range []int{0, 1, 2, 4, 8, 16, 32, 64, 128, 255} {
		if Has(s, id, word) {
			t.Fatal(id, "has", word, s)
		}
	}
}

// P17.1: the chapter's example.
func TestExample(t *testing.T) {
	for _, s := range []api.State{holding(on(10, 0), on(84, 0)), lined(holding(on(10, 1), on(84, 1)), 1, 0)} {
		if got, err := Of(s, 0); err != nil || got != (Shape{Power: 2, Tough: 2, Words: api.Flying}) {
			t.Error(got, err)
		}
		if left, err := Left(s, 0); err != nil || left != 2 {
			t.Error(left, err)
		}
		if !Is(s, 0) || Is(s, 1) || !Has(s, 0, api.Flying) || Has(s, 0, api.Reach) || Statics(s) != 1 {
			t.Error(Is(s, 0), Is(s, 1), Has(s, 0, api.Flying), Has(s, 0, api.Reach), Statics(s))
		}
		if player := s.Objects[0][2]; !slices.Equal(Beasts(s, player), []int{0}) || len(Beasts(s, 1-player)) != 0 {
			t.Error(Beasts(s, 0), Beasts(s, 1))
		}
	}
}

// P17.1: what these tests take from the chapter of the table is what the table has.
func TestTaken(t *testing.T) {
	statics := map[int]law{}
	for n, c := range table.All() {
		for _, a := range c.Abilities {
			if a.When == api.Static {
				within := a.Do.Subs[0]
				statics[n] = law{within.Op, a.Do.N, within.N, within.M}
			}
		}
		if want, ok := printed[n]; ok != (c.Kind == api.Beast) || want != (Shape{c.Power, c.Tough, c.Says}) {
			t.Error(n, c, want)
		}
	}
	if !maps.Equal(statics, laws) {
		t.Error(statics)
	}
}

// P17.1, P17.2: each card, as a card and as a token, by whoever's control, alone on the field: a Beast has the shape that stands on it, and nothing else is a creature.
func TestEachCardAlone(t *testing.T) {
	for n := range 120 {
		for _, kind := range []int{0, 1} {
			for control := range 2 {
				for owner := range 2 {
					s := holding(with(on(n, control), 1, owner, 13, kind))
					checkRight(t, s)
					if isBeast(n) {
						checkCreature(t, s, 0, printed[n])
					} else {
						checkNone(t, s, 0, api.ErrNone)
					}
				}
			}
		}
	}
}

// P17.1: what isn't on the field is no creature, whatever its card and kind are, and no static, even beside a creature.
func TestEachZone(t *testing.T) {
	for zone := range 11 {
		for n := range 120 {
			for kind := range 3 {
				s := holding(on(10, 0), with(in(n, zone), 13, kind), on(31, 1))
				if zone == 8 || state.Check(s) != nil {
					continue
				}
				checkRight(t, s)
				checkNone(t, s, 1, api.ErrNone)
				checkCreature(t, s, 0, Shape{1, 1, 1})
				checkCreature(t, s, 2, Shape{3, 3, 16})
				if Statics(s) != 0 || !slices.Equal(Beasts(s, 0), []int{0}) || !slices.Equal(Beasts(s, 1), []int{2}) {
					t.Fatal(zone, n, kind)
				}
			}
		}
	}
}

// P17.1: each static by itself, with a creature of the same control and of the other one, whoever owns them, the static ahead and behind.
func TestEachStatic(t *testing.T) {
	// The shapes of a Beast of 3 and 3, Deadly, with Flying until the turn's end, and of one of 2 and 3 on which Flying and Haste stand: of the same control, then of the other one.
	for n, want := range map[int][2][2]Shape{
		80: {{{3, 5, 17}, {2, 5, 5}}, {{3, 3, 17}, {2, 3, 5}}},
		81: {{{3, 3, 17}, {2, 3, 5}}, {{3, 3, 17}, {2, 3, 5}}},
		82: {{{3, 3, 17}, {2, 3, 5}}, {{2, 3, 17}, {1, 3, 5}}},
		83: {{{4, 3, 17}, {3, 3, 5}}, {{3, 3, 17}, {2, 3, 5}}},
		84: {{{4, 4, 17}, {3, 4, 5}}, {{3, 3, 17}, {2, 3, 5}}},
		95: {{{3, 3, 17}, {2, 3, 4}}, {{3, 3, 17}, {2, 3, 4}}},
		97: {{{3, 3, 17}, {2, 3, 5}}, {{1, 1, 17}, {1, 1, 5}}},
	} {
		for control := range 2 {
			for kind := range 2 {
				for side, shapes := range want {
					player := control ^ side
					deadly, flier := with(on(30, player), 10, 1, 1, kind), with(on(111, player), 13, kind)
					for _, order := range [][]int{{0, 1, 2}, {2, 1, 0}, {1, 0, 2}} {
						s := lined(holding(deadly, with(on(n, control), 13, kind), flier), order...)
						checkRight(t, s)
						checkCreature(t, s, 0, shapes[0])
						checkCreature(t, s, 2, shapes[1])
					}
				}
			}
		}
	}
}

// P17.1: Grant gives a word to what hasn't it, and Strip takes it from all; of several the last one on the field counts, not the one with the greatest number, and words until the turn's end stay.
func TestWordsInOrder(t *testing.T) {
	grant, strip, plain, flier := on(81, 0), on(95, 0), on(108, 0), on(113, 0)
	for _, row := range []struct {
		order  []int
		flying bool
	}{
		{[]int{0, 1, 2, 3}, false}, {[]int{1, 0, 2, 3}, true}, {[]int{2, 3, 0, 1}, false}, {[]int{3, 1, 2, 0}, true},
		{[]int{0, 2, 3, 1}, false}, {[]int{1, 2, 3, 0}, true},
	} {
		for _, control := range []int{0, 1} {
			s := lined(holding(grant, with(strip, 2, control), plain, flier), row.order...)
			checkRight(t, s)
			if Has(s, 2, 1) != row.flying || Has(s, 3, 1) != row.flying {
				t.Error(row, control)
			}
			s.Objects[2][10], s.Objects[3][10] = 1, 64
			checkRight(t, s)
			if !Has(s, 2, 1) || Has(s, 3, 1) != row.flying || !Has(s, 3, 64) || Has(s, 2, 64) {
				t.Error(row, control)
			}
		}
	}
}

// P17.1: Become is ahead of counters, of Pump, and of what lasts until the turn's end, wherever its static stands, and takes neither words nor damage.
func TestBecomeIsFirst(t *testing.T) {
	beast := with(on(49, 0), 6, 2, 7, 10, 8, 100, 9, 1000, 10, 3)
	for _, order := range [][]int{{0, 1, 2, 3}, {3, 2, 1, 0}, {1, 2, 3, 0}, {2, 0, 3, 1}, {3, 0, 1, 2}} {
		s := lined(holding(beast, on(97, 1), on(84, 0), on(80, 0)), order...)
		checkRight(t, s)
		checkCreature(t, s, 0, Shape{1 + 10 + 1 + 100, 1 + 10 + 1 + 2 + 1000, 131})
		if left, err := Left(s, 0); err != nil || left != 1012 {
			t.Error(left, err)
		}
	}
}

// P17.1: a Pump counts once for each static, of both players, as many as there may be.
func TestManyStatics(t *testing.T) {
	for count := range 400 {
		objects := slices.Repeat([]api.Object{on(82, 1), on(84, 0), on(83, 0)}, 133)[:count]
		s := holding(append(objects, on(10, 0))...)
		if got := Statics(s); got != count {
			t.Fatal(got, count)
		}
		want := Shape{1 - (count+2)/3 + (count+1)/3 + count/3, 1 + (count+1)/3, 1}
		if got, err := Of(s, count); err != nil || got != want {
			t.Fatal(count, got, err, want)
		}
	}
	full := slices.Repeat([]api.Object{on(82, 1), on(97, 0), on(81, 0), on(26, 1), on(95, 1)}, 80)
	s := holding(full...)
	if got := Statics(s); got != 320 {
		t.Error(got)
	}
	if got, err := Of(s, 398); err != nil || got != (Shape{1, 1, 8}) {
		t.Error(got, err)
	}
	if got := Beasts(s, 1); len(got) != 80 || got[0] != 3 || got[79] != 398 {
		t.Error(got)
	}
}

// P17.1: counters, power, tough and damage as great and as little as they may be.
func TestGreatNumbers(t *testing.T) {
	const most = 1 << 30
	for _, counters := range []int{0, 1, 7, most - 1, most} {
		for _, power := range []int{-most, -most + 1, -2, -1, 0, 1, 3, most} {
			for _, tough := range []int{-most, -5, -1, 0, 1, 4, most - 1, most} {
				for _, damage := range []int{0, 1, 2, 3, 9, most - 1, most} {
					s := holding(with(on(114, 1), 6, damage, 7, counters, 8, power, 9, tough), on(84, 1))
					if got, err := Of(s, 0); err != nil || got != (Shape{3 + counters + power, 3 + counters + tough, 0}) {
						t.Fatal(s.Objects[0], got, err)
					}
					if got, err := Left(s, 0); err != nil || got != 3+counters+tough-damage {
						t.Fatal(s.Objects[0], got, err)
					}
				}
			}
		}
	}
}

// P17.2: without statics a shape is the card's, with counters and what lasts until the turn's end; no other field changes it.
func TestWithoutStatics(t *testing.T) {
	for n, base := range printed {
		for words := range 256 {
			counters, power, tough := words%5, words%7-3, words%11-5
			s := holding(on(0, 0), with(on(n, words%2), 7, counters, 8, power, 9, tough, 10, words), on(98, 1))
			checkCreature(t, s, 1, Shape{base.Power + counters + power, base.Tough + counters + tough, base.Words | words})
		}
		for _, fields := range [][]int{{4, 1}, {5, 1}, {6, 3}, {11, 1}, {12, 1}, {12, 2}, {13, 1}, {14, 3}, {15, 1}, {15, 2}, {17, 1}, {17, 2}, {17, 3}, {1, 1}, {1, 0}} {
			checkCreature(t, holding(with(on(n, 0), fields...), on(80, 1)), 0, base)
			checkCreature(t, holding(with(on(n, 1), fields...), in(84, 3)), 0, base)
		}
	}
}

// P17.1: players and the game change no shape.
func TestPlayersAndGame(t *testing.T) {
	want := holding(on(10, 0), on(84, 0), on(95, 1))
	s := want
	s.Players = [2][9]int{{20, 1, 2, 3, 4, 5, 1000, 1, 0}, {-3, 1000, 0, 7, 0, 9, 0, 0, 1}}
	s.Game = [7]int{12, 1, 5, 1, 1, 4096, 2}
	checkRight(t, s)
	checkCreature(t, s, 0, Shape{2, 2, 0})
	checkCreature(t, want, 0, Shape{2, 2, 0})
}

// P17.1: Has asks that all bits of a word from 1 to 255 are in the creature's, and is false of any other word.
func TestHas(t *testing.T) {
	for words := range 256 {
		s := holding(with(on(108, 0), 10, words), on(81, 1), on(1, 0))
		for word := -3; word < 520; word++ {
			want := word >= 1 && word <= 255
			for bit := 1; bit <= 128; bit *= 2 {
				if word > 0 && word/bit%2 == 1 && words/bit%2 == 0 {
					want = false
				}
			}
			if got := Has(s, 0, word); got != want {
				t.Fatal(words, word, got)
			}
		}
		for _, word := range far {
			if Has(s, 0, word) || Has(s, 1, word) || Has(s, 2, word) || Has(s, -1, word) {
				t.Fatal(words, word)
			}
		}
	}
}

// P17.1: Beasts answers in the field's order, whatever the numbers are, and none of another player.
func TestBeasts(t *testing.T) {
	s := holding(on(10, 0), on(80, 0), on(45, 1), on(119, 0), in(11, 2), on(111, 1), on(3, 1), on(12, 0), in(12, 9))
	for _, row := range []struct {
		order []int
		want  [2][]int
	}{
		{[]int{0, 1, 2, 3, 5, 6, 7}, [2][]int{{0, 3, 7}, {2, 5}}},
		{[]int{7, 6, 5, 3, 2, 1, 0}, [2][]int{{7, 3, 0}, {5, 2}}},
		{[]int{3, 7, 1, 5, 2, 0, 6}, [2][]int{{3, 7, 0}, {5, 2}}},
	} {
		s := lined(s, row.order...)
		checkRight(t, s)
		for player, want := range row.want {
			if got := Beasts(s, player); !slices.Equal(got, want) {
				t.Error(row, player, got)
			}
		}
		for _, player := range append([]int{2, 3, 8}, far...) {
			if got := Beasts(s, player); len(got) != 0 {
				t.Error(player, got)
			}
		}
	}
	for player := range 2 {
		if got := Beasts(holding(on(1-player, player), on(10, 1-player)), player); len(got) != 0 {
			t.Error(got)
		}
	}
}

// P17.1: of numbers that no object has there is no creature.
func TestNoObject(t *testing.T) {
	crowd := holding(slices.Repeat([]api.Object{on(10, 0)}, 400)...)
	for _, s := range []api.State{{}, state.New(), holding(on(10, 1)), holding(on(81, 1), on(111, 0)), crowd} {
		checkNone(t, s, len(s.Objects), api.ErrNone)
		checkNone(t, s, len(s.Objects)+1, api.ErrNone)
		checkNone(t, s, -len(s.Objects)-1, api.ErrNone)
		for _, id := range far {
			if id < 0 || id >= len(s.Objects) {
				checkNone(t, s, id, api.ErrNone)
			}
		}
	}
	checkCreature(t, crowd, 0, Shape{1, 1, 1})
	checkCreature(t, crowd, 399, Shape{1, 1, 1})
}

// wrong is a state that isn't right, and by which error.
type wrong struct {
	s   api.State
	err error
}

// wrongs are states that aren't right; in each of them stand creatures and statics.
func wrongs() []wrong {
	base := func() api.State { return holding(on(10, 0), on(84, 0), on(111, 1), in(50, 2)) }
	list := []wrong{
		{holding(slices.Repeat([]api.Object{on(10, 0), on(84, 0), on(111, 1)}, 134)...), api.ErrFull},
		{holding(slices.Repeat([]api.Object{with(on(10, 0), 0, 120)}, 401)...), api.ErrFull},
	}
	for _, fields := range [][]int{{0, -1}, {0, 120}, {0, math.MaxInt}, {0, math.MinInt}, {1, 2}, {2, 2}, {2, -1}, {6, -1}, {7, -1}, {8, 1<<30 + 1}, {9, -1<<30 - 1}, {10, 256}, {10, -1}, {12, 5}, {13, 3}, {17, 4}} {
		for id := range 3 {
			s := base()
			s.Objects[id] = with(s.Objects[id], fields...)
			list = append(list, wrong{s, api.ErrRange})
		}
	}
	players, game := base(), base()
	players.Players[1][0] = 1<<30 + 1
	game.Game[6] = 4
	list = append(list, wrong{players, api.ErrRange}, wrong{game, api.ErrRange})
	for _, field := range [][]int{nil, {0}, {0, 1}, {1, 2}, {0, 1, 2, 0}, {0, 1, 2, 3}, {0, 1, 2, 4}, {0, 1, 2, -1}, {0, 1, 1}} {
		list = append(list, wrong{lined(base(), field...), api.ErrZone})
	}
	ability := base()
	ability.Objects[0][13] = 2
	list = append(list, wrong{ability, api.ErrZone})
	tapped, aimed := base(), base()
	tapped.Objects[3][4] = 1
	aimed.Objects[0][16] = 1
	return append(list, wrong{tapped, api.ErrForm}, wrong{aimed, api.ErrForm})
}

// P17.1: of a state that isn't right Of and Left answer Check's error, ahead of that there is no such creature, and the others nothing.
func TestWrongStates(t *testing.T) {
	for at, row := range wrongs() {
		if err := state.Check(row.s); err != row.err {
			t.Fatal(at, err, row.err)
		}
		for _, id := range append([]int{0, 1, 2, 3, 4}, far...) {
			checkNone(t, row.s, id, row.err)
		}
		for _, player := range append([]int{0, 1, 2}, far...) {
			if got := Beasts(row.s, player); len(got) != 0 {
				t.Error(at, player, got)
			}
		}
		if got := Statics(row.s); got != 0 {
			t.Error(at, got)
		}
	}
}

// some is a right state by chance, with creatures and statics in it above all, whose field's list has any order.
func some(r *rand.Rand) api.State {
	statics := slices.Sorted(maps.Keys(laws))
	var objects []api.Object
	for range r.Intn(24) {
		zone := 8
		if r.Intn(5) == 0 {
			zone = r.Intn(11)
		}
		o := in([]int{r.Intn(120), 10 + r.Intn(40), 111 + r.Intn(9), statics[r.Intn(len(statics))]}[r.Intn(4)], zone)
		o[14], o[15], o[17] = r.Intn(4), r.Intn(2), r.Intn(4)
		if zone >= 8 {
			o[1], o[2] = r.Intn(2), r.Intn(2)
			o[13] = r.Intn(2)
		}
		if zone == 8 {
			o = with(o, 4, r.Intn(2), 5, r.Intn(2), 6, r.Intn(6), 7, r.Intn(4), 8, r.Intn(7)-3, 9, r.Intn(7)-3, 10, r.Intn(256)&r.Intn(256)&r.Intn(256), 11, r.Intn(2), 12, r.Intn(2))
		}
		objects = append(objects, o)
	}
	s := holding(objects...)
	r.Shuffle(len(s.Lists[8]), func(i, j int) { s.Lists[8][i], s.Lists[8][j] = s.Lists[8][j], s.Lists[8][i] })
	return s
}

// P17.1: all calls of right states by chance.
func TestSome(t *testing.T) {
	r := rand.New(rand.NewSource(17))
	most := 0
	for range 3000 {
		s := some(r)
		checkRight(t, s)
		most = max(most, Statics(s))
	}
	if most < 8 {
		t.Error("few statics", most)
	}
}

// P17.2: of states by chance, out of which the statics were taken, each creature's shape is its own matter.
func TestSomeWithoutStatics(t *testing.T) {
	r := rand.New(rand.NewSource(172))
	for range 2000 {
		s := some(r)
		for id, o := range s.Objects {
			if _, ok := laws[o[0]]; ok {
				s.Objects[id][0] = 49
			}
		}
		if Statics(s) != 0 {
			t.Fatal(s)
		}
		for id, o := range s.Objects {
			if base, ok := printed[o[0]]; ok && o[3] == 8 {
				checkCreature(t, s, id, Shape{base.Power + o[7] + o[8], base.Tough + o[7] + o[9], base.Words | o[10]})
			}
		}
	}
}

// roomy is a state apart, in the spare room of whose lists stands what no call may write over.
func roomy(s api.State) api.State {
	s.Objects = append(slices.Clone(s.Objects), api.Object{0: -7, 3: 8}, api.Object{0: -7})[:len(s.Objects)]
	for zone, list := range s.Lists {
		s.Lists[zone] = append(slices.Clone(list), -7, -7)[:len(list)]
	}
	return s
}

// whole is a state apart with all that stands in the spare room of its lists.
func whole(s api.State) api.State {
	s.Objects = slices.Clone(s.Objects[:cap(s.Objects)])
	for zone, list := range s.Lists {
		s.Lists[zone] = slices.Clone(list[:cap(list)])
	}
	return s
}

// P17.1, rules 5 and 8: no call changes what is handed in or keeps it; what Beasts answers is new memory; the same question has the same answer.
func TestApart(t *testing.T) {
	r := rand.New(rand.NewSource(5))
	for range 500 {
		s := roomy(some(r))
		was := whole(s)
		checkRight(t, s)
		for player := range 2 {
			got := Beasts(s, player)
			same := slices.Clone(got)
			for place := range got[:cap(got)] {
				got[:cap(got)][place] = -9
			}
			if again := Beasts(s, player); !slices.Equal(again, same) {
				t.Fatal(player, again, same)
			}
		}
		checkRight(t, s)
		if !state.Same(whole(s), was) {
			t.Fatal("what was handed in was changed", s, was)
		}
	}
	for _, row := range wrongs() {
		s := roomy(row.s)
		was := whole(s)
		checkNone(t, s, 0, row.err)
		if len(Beasts(s, 0)) != 0 || Statics(s) != 0 || !state.Same(whole(s), was) {
			t.Error(row.err)
		}
	}
}

// P17.1: the four groups, also the one that no card of the table is about: that is of yours without the static's object.
func TestGroups(t *testing.T) {
	for group, want := range [][3]bool{{true, true, true}, {true, true, false}, {false, false, true}, {false, true, false}} {
		for control := range 2 {
			for source := range 3 {
				// The static's object itself, another one of the same control, one of the other.
				ids := [3]int{source, (source + 1) % 3, (source + 2) % 3}
				s := api.State{Objects: make([]api.Object, 3)}
				s.Objects[ids[0]] = on(10, control)
				s.Objects[ids[1]] = with(on(10, control), 1, control)
				s.Objects[ids[2]] = with(on(10, 1-control), 1, control)
				for place, id := range ids {
					if got := reaches(s, static{source: source, do: api.Effect{Op: api.All, N: group}}, id); got != want[place] {
						t.Error(group, control, source, id, got)
					}
				}
			}
		}
	}
}

// P17.1: a card's statics are its Static abilities alone, in order, however many it has.
func TestAbiding(t *testing.T) {
	ability := func(when, n int) api.Ability { return api.Ability{When: when, Do: api.Effect{Op: api.All, N: n}} }
	for _, row := range []struct {
		whens, want []int
	}{
		{nil, nil}, {[]int{0}, nil}, {[]int{5}, []int{0}}, {[]int{5, 5}, []int{0, 1}}, {[]int{1, 5, 2, 5}, []int{1, 3}},
		{[]int{5, 3, 4, 6}, []int{0}}, {[]int{5, 5, 5, 5}, []int{0, 1, 2, 3}}, {[]int{0, 1, 2, 3, 4, 6, 7, -1}, nil},
	} {
		var c api.Card
		for n, when := range row.whens {
			c.Abilities = append(c.Abilities, ability(when, n))
		}
		var got []int
		for _, do := range abiding(c) {
			got = append(got, do.N)
		}
		if !slices.Equal(got, row.want) {
			t.Error(row, got)
		}
	}
}

// P17.1: of effects that no card of the table has, too: the last Become counts, words come and go in order, of several bits at once.
func TestShaped(t *testing.T) {
	c := api.Card{Kind: api.Beast, Power: 7, Tough: 9, Says: 12}
	o := api.Object{6: 50, 7: 100, 8: 1000, 9: -2000, 10: 128}
	become := func(n, m int) api.Effect { return api.Effect{Op: api.Become, N: n, M: m} }
	pump := func(n, m int) api.Effect { return api.Effect{Op: api.Pump, N: n, M: m} }
	grant := func(n int) api.Effect { return api.Effect{Op: api.Grant, N: n} }
	strip := func(n int) api.Effect { return api.Effect{Op: api.Strip, N: n} }
	for _, row := range []struct {
		effects []api.Effect
		want    Shape
	}{
		{nil, Shape{1107, -1891, 140}},
		{[]api.Effect{become(20, 30)}, Shape{1120, -1870, 140}},
		{[]api.Effect{become(20, 30), become(-5, 0)}, Shape{1095, -1900, 140}},
		{[]api.Effect{become(-5, 0), become(20, 30)}, Shape{1120, -1870, 140}},
		{[]api.Effect{pump(-3, 4)}, Shape{1104, -1887, 140}},
		{[]api.Effect{pump(-3, 4), become(20, 30), pump(1, -1)}, Shape{1118, -1867, 140}},
		{[]api.Effect{grant(3)}, Shape{1107, -1891, 143}},
		{[]api.Effect{grant(6)}, Shape{1107, -1891, 142}},
		{[]api.Effect{grant(0)}, Shape{1107, -1891, 140}},
		{[]api.Effect{strip(5)}, Shape{1107, -1891, 136}},
		{[]api.Effect{strip(255)}, Shape{1107, -1891, 128}},
		{[]api.Effect{strip(255), grant(9)}, Shape{1107, -1891, 137}},
		{[]api.Effect{grant(9), strip(12), grant(2)}, Shape{1107, -1891, 131}},
		{[]api.Effect{grant(9), strip(12), grant(2), strip(2)}, Shape{1107, -1891, 129}},
		{[]api.Effect{grant(16), become(1, 1), pump(1, 1), strip(8)}, Shape{1102, -1898, 148}},
	} {
		if got := shaped(c, o, row.effects); got != row.want {
			t.Error(row, got)
		}
	}
}
