package state

import (
	"math"
	"math/rand"
	"slices"
	"testing"

	"mulligan/api"
)

// far are numbers outside of each span, some of which are right if they are cut off, wrapped around or turned.
var far = []int{
	math.MinInt, math.MinInt + 1, -1 << 62, -1 << 32, -1<<32 + 1, -1 << 31, -1 << 16, -1 << 8,
	1 << 31, 1 << 32, 1<<32 + 1, 1<<32 + 2, 1 << 62, math.MaxInt - 1, math.MaxInt,
}

// edges are numbers about the ends of all spans.
var edges = append([]int{
	-1<<30 - 1, -1 << 30, -1<<30 + 1, -1000, -400, -3, -2, -1, 0, 1, 2, 3, 4, 5, 7, 8, 9, 10, 11, 12, 118, 119, 120, 121, 128, 254, 255, 256,
	399, 400, 401, 999, 1000, 1001, 4095, 4096, 4097, 1<<30 - 1, 1 << 30, 1<<30 + 1,
}, far...)

// baseNames are the kinds of lists by their numbers: of both players' libraries, hands, graves and exiles, the field, the stack, what is gone.
var baseNames = [11]string{"library", "library", "hand", "hand", "grave", "grave", "exile", "exile", "field", "stack", "gone"}

// mark is what stands in the spare room of what is handed in.
const mark = -777

// with is an object with fields set: a field, its number, and so on.
func with(o api.Object, pairs ...int) api.Object {
	for i := 0; i < len(pairs); i += 2 {
		o[pairs[i]] = pairs[i+1]
	}
	return o
}

// at is a card of a player that has nothing but stands in a list; in a list of one player's own it is that one's.
func at(zone int) api.Object {
	o := api.Object{api.FZone: zone}
	if zone < 8 {
		o[api.FOwner], o[api.FControl] = zone%2, zone%2
	}
	return o
}

// holding is the state of objects, each of which stands in the list that it says, if there is such a one.
func holding(objects ...api.Object) api.State {
	s := api.State{Objects: objects}
	for id, o := range objects {
		if zone := o[api.FZone]; zone >= 0 && zone < 11 {
			s.Lists[zone] = append(s.Lists[zone], id)
		}
	}
	return s
}

// rich is a right state in which each number that may be is another one than 0 somewhere; two objects stand in most lists.
func rich() api.State {
	s := holding(
		with(at(0), 0, 119, 17, 2), with(at(1), 0, 7), with(at(2), 0, 12, 17, 1), with(at(3), 0, 64, 17, 2),
		with(at(4), 17, 3), with(at(5), 0, 50, 17, 3, 14, 3), with(at(6), 0, 3), with(at(7), 0, 9, 15, 4),
		with(at(8), 0, 11, 1, 0, 2, 1, 4, 1, 5, 1, 6, 3, 7, 2, 8, -4, 9, 5, 10, 130, 11, 1, 17, 3),
		with(at(8), 0, 116, 1, 1, 2, 1, 12, 9, 13, 1, 6, 1<<30, 8, 1<<30, 9, -1<<30),
		with(at(9), 0, 53, 16, -2, 17, 3), with(at(9), 0, 13, 1, 1, 2, 0, 13, 2, 14, 1, 15, 9, 16, 10), with(at(9), 0, 112, 13, 1, 2, 1, 16, -1),
		with(at(10), 0, 20, 1, 1, 13, 1), with(at(10), 0, 21, 2, 1, 13, 2, 14, 2, 15, 17), with(at(10), 0, 22),
		with(at(0), 0, 5), with(at(2), 0, 31), with(at(5), 0, 77), with(at(1), 0, 107, 17, 3),
	)
	s.Players = [2][9]int{{20, 1, 2, 3, 4, 5, 1000, 1, 0}, {-3, 1000, 0, 7, 0, 9, 0, 0, 1}}
	s.Game = [7]int{12, 1, 5, 1, 1, 4096, 2}
	return s
}

// cloned is a state apart, whose lists have spare room in which marks stand.
func cloned(s api.State) api.State {
	apart := s
	spare := slices.Repeat([]api.Object{{mark, mark}}, 3)
	apart.Objects = slices.Concat(s.Objects, spare)[:len(s.Objects)]
	for zone, list := range s.Lists {
		apart.Lists[zone] = slices.Concat(list, []int{mark, mark, mark})[:len(list)]
	}
	return apart
}

// equal tells whether two states are the same, number by number.
func equal(a, b api.State) bool {
	if len(a.Objects) != len(b.Objects) {
		return false
	}
	for id := range a.Objects {
		for field := range 18 {
			if a.Objects[id][field] != b.Objects[id][field] {
				return false
			}
		}
	}
	for zone := range 11 {
		if len(a.Lists[zone]) != len(b.Lists[zone]) {
			return false
		}
		for place, id := range a.Lists[zone] {
			if b.Lists[zone][place] != id {
				return false
			}
		}
	}
	for field := range 9 {
		if a.Players[0][field] != b.Players[0][field] || a.Players[1][field] != b.Players[1][field] {
			return false
		}
	}
	for field := range 7 {
		if a.Game[field] != b.Game[field] {
			return false
		}
	}
	return true
}

// isKept tells whether a cloned state is as it was, and so are the marks in its spare room.
func isKept(s, was api.State) bool {
	if !equal(s, was) {
		return false
	}
	for _, o := range s.Objects[len(s.Objects) : len(s.Objects)+3] {
		if o != (api.Object{mark, mark}) {
			return false
		}
	}
	for _, list := range s.Lists {
		if !slices.Equal(list[len(list):len(list)+3], []int{mark, mark, mark}) {
			return false
		}
	}
	return true
}

// objectLimits are the least and the greatest number of each field of one of n objects.
func objectLimits(n int) [18][2]int {
	const most = 1073741824
	return [18][2]int{
		{0, 119}, {0, 1}, {0, 1}, {0, 10}, {0, 1}, {0, 1}, {0, most}, {0, most}, {-most, most}, {-most, most}, {0, 255}, {0, 1}, {0, n}, {0, 2},
		{0, 3}, {0, n}, {-2, n}, {0, 3},
	}
}

// playerLimits and gameLimits are those of a player's fields and of a game's.
var playerLimits = [9][2]int{
	{-1073741824, 1073741824}, {0, 1000}, {0, 1000}, {0, 1000}, {0, 1000}, {0, 1000}, {0, 1000}, {0, 1}, {0, 1},
}
var gameLimits = [7][2]int{{0, 1073741824}, {0, 1}, {0, 7}, {0, 1}, {0, 1}, {0, 4096}, {0, 3}}

// outside tells whether a number is none of those within limits.
func outside(n int, limits [2]int) bool { return n < limits[0] || n > limits[1] }

// expected is what Check is to answer, by the chapter's words, point by point.
func expected(s api.State) error {
	if len(s.Objects) > 400 {
		return api.ErrFull
	}
	if rangeFails(s) {
		return api.ErrRange
	}
	if zoneFails(s) {
		return api.ErrZone
	}
	for _, o := range s.Objects {
		if elsewhereFails(o, baseNames[o[3]]) {
			return api.ErrForm
		}
	}
	return nil
}

// rangeFails is of the chapter's first two points and its last one.
func rangeFails(s api.State) bool {
	fails := false
	limits := objectLimits(len(s.Objects))
	for field := range 18 {
		for id := range s.Objects {
			fails = fails || outside(s.Objects[id][field], limits[field])
		}
	}
	for field := range 9 {
		fails = fails || outside(s.Players[0][field], playerLimits[field]) || outside(s.Players[1][field], playerLimits[field])
	}
	for field := range 7 {
		fails = fails || outside(s.Game[field], gameLimits[field])
	}
	return fails
}

// zoneFails is of the third one: how often each object stands where is counted, and nothing else may stand anywhere.
func zoneFails(s api.State) bool {
	all := 0
	for _, list := range s.Lists {
		all += len(list)
	}
	if all != len(s.Objects) {
		return true
	}
	for id, o := range s.Objects {
		times := 0
		for _, x := range s.Lists[o[3]] {
			if x == id {
				times++
			}
		}
		switch baseNames[o[3]] {
		case "library", "hand", "grave", "exile":
			if o[13] != 0 || o[3]%2 != o[1] {
				return true
			}
		case "field":
			if o[13] == 2 {
				return true
			}
		}
		if times != 1 {
			return true
		}
	}
	return false
}

// elsewhereFails is of the fourth one, of an object that stands in a list of that name.
func elsewhereFails(o api.Object, base string) bool {
	onField := o[4] | o[5] | o[6] | o[7] | o[8] | o[9] | o[10] | o[11] | o[12]
	switch base {
	case "field":
		return o[16] != 0
	case "stack":
		return onField != 0
	case "gone":
		return onField != 0 || o[16] != 0
	}
	return onField != 0 || o[16] != 0 || o[1] != o[2]
}

// checkCheck holds a Check against the reckoning, and asks that nothing was changed by it.
func checkCheck(t *testing.T, s api.State) error {
	t.Helper()
	argument := cloned(s)
	got, want := Check(argument), expected(s)
	if got != want {
		t.Fatalf("Check(%v) = %v, not %v", s, got, want)
	}
	if !isKept(argument, s) {
		t.Fatalf("Check changed %v to %v, or its spare room", s, argument)
	}
	return got
}

// checkTold holds a Check against the reckoning, and against an error written out.
func checkTold(t *testing.T, s api.State, want error) {
	t.Helper()
	if got := checkCheck(t, s); got != want {
		t.Fatalf("Check(%v) = %v, not %v", s, got, want)
	}
}

// P10.1: the state without objects is right, and all in it is 0.
func TestNew(t *testing.T) {
	s := New()
	if len(s.Objects) != 0 || s.Players != [2][9]int{} || s.Game != [7]int{} {
		t.Fatalf("New() = %v", s)
	}
	for zone, list := range s.Lists {
		if len(list) != 0 {
			t.Errorf("New: list %d = %v", zone, list)
		}
	}
	checkTold(t, s, nil)
	s.Objects, s.Lists[0], s.Players[1][0], s.Game[0] = append(s.Objects, api.Object{}), append(s.Lists[0], 0), 20, 1
	if again := New(); !equal(again, api.State{}) {
		t.Errorf("New() hangs on what was done to an earlier answer: %v", again)
	}
}

// P10.1: right states, and the chapter's example.
func TestCheckRight(t *testing.T) {
	checkTold(t, api.State{Objects: []api.Object{{}}}, api.ErrZone)
	checkTold(t, rich(), nil)
	for zone := range 11 {
		checkTold(t, holding(at(zone)), nil)
		checkTold(t, holding(at(zone), at(zone), at(10-zone)), nil)
	}
	// An object's number may stand anywhere in its list.
	s := holding(at(8), at(8), at(8), at(3))
	s.Lists[8] = []int{2, 0, 1}
	checkTold(t, s, nil)
	// nil and empty lists mean the same.
	s = api.State{Objects: []api.Object{}}
	for zone := range s.Lists {
		s.Lists[zone] = []int{}
	}
	checkTold(t, s, nil)
}

// P10.1: 400 objects may be, and of more nothing else is told, whatever they are.
func TestCheckFull(t *testing.T) {
	many := func(n int) api.State {
		var objects []api.Object
		for i := range n {
			objects = append(objects, at(i%11))
		}
		return holding(objects...)
	}
	for _, n := range []int{1, 2, 119, 120, 255, 256, 257, 399, 400} {
		checkTold(t, many(n), nil)
	}
	for _, n := range []int{401, 402, 512, 800, 65536} {
		checkTold(t, many(n), api.ErrFull)
		s := many(n)
		s.Objects[0][api.FCard], s.Game[api.GPhase], s.Lists[3] = -1, 8, nil
		checkTold(t, s, api.ErrFull)
		checkTold(t, api.State{Objects: s.Objects}, api.ErrFull)
	}
	// Lists that are longer than all objects are wrong by what they say.
	s := many(400)
	s.Lists[10] = slices.Concat(s.Lists[10], make([]int, 100000))
	checkTold(t, s, api.ErrZone)
}

// fieldCases are where a field of an object may have all of its numbers: a list, and what else is there of it.
var fieldCases = [18]struct {
	zone  int
	pairs []int
}{
	api.FCard: {0, nil}, api.FOwner: {9, nil}, api.FControl: {9, nil}, api.FZone: {10, nil}, api.FTapped: {8, nil}, api.FSick: {8, nil},
	api.FDamage: {8, nil}, api.FCounters: {8, nil}, api.FPower: {8, nil}, api.FTough: {8, nil}, api.FWords: {8, nil}, api.FAttack: {8, nil},
	api.FBlock: {8, nil}, api.FKind: {10, nil}, api.FAbility: {3, nil}, api.FSource: {4, nil}, api.FTarget: {9, nil}, api.FKnows: {1, nil},
}

// P10.1: the numbers that each field of an object may have, in the first object, the last one, and one between.
func TestCheckObjectNumbers(t *testing.T) {
	for _, count := range []int{1, 2, 5, 130, 400} {
		for field, c := range fieldCases {
			limits := objectLimits(count)[field]
			for _, n := range append([]int{count - 1, count, count + 1, -count, limits[0] - 1, limits[1] + 1}, edges...) {
				for _, id := range []int{0, count / 2, count - 1} {
					objects := slices.Repeat([]api.Object{at(5)}, count)
					objects[id] = with(at(c.zone), field, n)
					if field == api.FZone && n >= 0 && n <= 10 {
						objects[id] = at(n)
					}
					if field == api.FOwner && n >= 0 && n <= 1 {
						objects[id] = with(at(9), field, n, api.FControl, 1-n)
					}
					want := error(nil)
					if outside(n, limits) {
						want = api.ErrRange
					}
					checkTold(t, holding(objects...), want)
				}
			}
		}
	}
}

// P10.1: the numbers that each field of a player and of a game may have.
func TestCheckOtherNumbers(t *testing.T) {
	for _, s := range []api.State{New(), rich()} {
		for _, n := range edges {
			for player := range 2 {
				for field, limits := range playerLimits {
					other := cloned(s)
					other.Players[player][field] = n
					want := error(nil)
					if outside(n, limits) {
						want = api.ErrRange
					}
					checkTold(t, other, want)
				}
			}
			for field, limits := range gameLimits {
				other := cloned(s)
				other.Game[field] = n
				want := error(nil)
				if outside(n, limits) {
					want = api.ErrRange
				}
				checkTold(t, other, want)
			}
		}
	}
}

// P10.1: numbers of lists that are no objects'; however great they are, it is what lists say that is wrong.
func TestCheckStrangers(t *testing.T) {
	for zone := range 11 {
		for _, id := range append([]int{2, 3, -2, -3, mark}, edges...) {
			if id == 0 || id == 1 {
				continue
			}
			s := holding(at(zone), at(zone))
			s.Lists[zone] = append(s.Lists[zone], id)
			checkTold(t, s, api.ErrZone)
			s.Lists[zone] = []int{id, 0, 1}
			checkTold(t, s, api.ErrZone)
			s.Lists[zone] = []int{0, id}
			checkTold(t, s, api.ErrZone)
			empty := New()
			empty.Lists[zone] = []int{id}
			checkTold(t, empty, api.ErrZone)
		}
		empty := New()
		empty.Lists[zone] = []int{0}
		checkTold(t, empty, api.ErrZone)
	}
}

// P10.1: each object stands just once in all lists, and in the one that it says.
func TestCheckPlaces(t *testing.T) {
	for zone := range 11 {
		for other := range 11 {
			s := holding(at(zone), at(other), at(zone))
			checkTold(t, s, nil)
			s.Lists[other] = append(s.Lists[other], 0)
			checkTold(t, s, api.ErrZone)
			s = holding(at(zone), at(other), at(zone))
			s.Lists[other] = slices.Insert(s.Lists[other], 0, 2)
			checkTold(t, s, api.ErrZone)
			if other == zone {
				continue
			}
			// In another list than it says, alone or beside others.
			s = holding(at(zone))
			s.Lists[zone], s.Lists[other] = nil, []int{0}
			checkTold(t, s, api.ErrZone)
			s = holding(at(zone), at(other))
			s.Lists[zone], s.Lists[other] = s.Lists[other], s.Lists[zone]
			checkTold(t, s, api.ErrZone)
		}
		// In none; and another one twice, so that there are as many numbers as objects.
		s := holding(at(zone), at(zone))
		for _, list := range [][]int{nil, {}, {0}, {1}, {0, 0}, {1, 1}, {0, 1, 1}, {0, 0, 1}, {0, 1, 0}} {
			s.Lists[zone] = list
			checkTold(t, s, api.ErrZone)
		}
		for _, list := range [][]int{{0, 1}, {1, 0}} {
			s.Lists[zone] = list
			checkTold(t, s, nil)
		}
	}
}

// P10.1: what may stand in which list: of each kind, owner and control.
func TestCheckStanding(t *testing.T) {
	for zone := range 11 {
		for kind := range 3 {
			for owner := range 2 {
				for control := range 2 {
					want := error(nil)
					switch {
					case zone < 8 && (kind != api.IsCard || owner != zone%2):
						want = api.ErrZone
					case zone == api.Field && kind == api.IsAbility:
						want = api.ErrZone
					case zone < 8 && control != owner:
						want = api.ErrForm
					}
					o := api.Object{api.FZone: zone, api.FKind: kind, api.FOwner: owner, api.FControl: control}
					checkTold(t, holding(o), want)
					checkTold(t, holding(at(zone), o), want)
					checkTold(t, holding(o, at(4)), want)
				}
			}
		}
	}
}

// P10.1: what an object has that isn't on the field, and what one has that isn't on the stack.
func TestCheckForm(t *testing.T) {
	onField := [][]int{
		{api.FTapped, 1}, {api.FSick, 1}, {api.FAttack, 1}, {api.FBlock, 1, 2}, {api.FDamage, 1, 1000}, {api.FCounters, 1, 99},
		{api.FPower, 1, -1}, {api.FTough, 1, -1}, {api.FWords, 1, 128, 255},
	}
	anywhere := [][]int{{api.FCard, 1, 119}, {api.FAbility, 1, 3}, {api.FSource, 1, 2}, {api.FKnows, 1, 2, 3}}
	for zone := range 11 {
		checkField := func(field, n int, want error) {
			t.Helper()
			o := with(at(zone), field, n)
			checkTold(t, holding(o, at(4)), want)
			checkTold(t, holding(at(10), o), want)
		}
		for _, c := range onField {
			for _, n := range c[1:] {
				want := error(api.ErrForm)
				if zone == api.Field {
					want = nil
				}
				checkField(c[0], n, want)
			}
		}
		for _, c := range anywhere {
			for _, n := range c[1:] {
				checkField(c[0], n, nil)
			}
		}
		for _, target := range []int{-2, -1, 1, 2} {
			want := error(api.ErrForm)
			if zone == api.Stack {
				want = nil
			}
			checkField(api.FTarget, target, want)
		}
	}
}

// wrongs are changes of the rich state, each of which has its own error, by its place among errors: numbers, what lists say, and what else there is of an object.
func wrongs() [3][]func(s *api.State) {
	return [3][]func(s *api.State){
		{
			func(s *api.State) { s.Objects[0][api.FCard] = 120 },
			func(s *api.State) { s.Objects[19][api.FKnows] = 4 },
			func(s *api.State) { s.Players[1][api.PMana+2] = 1001 },
			func(s *api.State) { s.Game[api.GResult] = 4 },
		},
		{
			func(s *api.State) { s.Lists[0] = append(s.Lists[0], 0) },
			func(s *api.State) { s.Lists[10] = append(s.Lists[10], 20) },
			func(s *api.State) { s.Lists[3] = nil },
			func(s *api.State) { s.Objects[6][api.FKind] = api.IsToken },
			func(s *api.State) { s.Objects[8][api.FKind] = api.IsAbility },
			func(s *api.State) { s.Objects[4][api.FOwner], s.Objects[4][api.FControl] = 1, 1 },
		},
		{
			func(s *api.State) { s.Objects[1][api.FTapped] = 1 },
			func(s *api.State) { s.Objects[2][api.FControl] = 1 },
			func(s *api.State) { s.Objects[9][api.FTarget] = -1 },
			func(s *api.State) { s.Objects[13][api.FWords] = 1 },
		},
	}
}

// P10.1: of several errors the one named first is told, wherever they are.
func TestCheckOrder(t *testing.T) {
	order := [3]error{api.ErrRange, api.ErrZone, api.ErrForm}
	all := wrongs()
	for i, list := range all {
		for _, wrong := range list {
			s := rich()
			wrong(&s)
			checkTold(t, s, order[i])
			for j := i; j < 3; j++ {
				for _, other := range all[j] {
					both := cloned(s)
					other(&both)
					checkTold(t, both, order[i])
				}
			}
		}
	}
}

// P10.1: the rich state with each of its numbers changed.
func TestCheckEachNumber(t *testing.T) {
	s := rich()
	for _, n := range edges {
		for id := range s.Objects {
			for field := range 18 {
				other := cloned(s)
				other.Objects[id][field] = n
				checkCheck(t, other)
			}
		}
		for zone, list := range s.Lists {
			for place := range list {
				other := cloned(s)
				other.Lists[zone][place] = n
				checkCheck(t, other)
			}
		}
	}
	for zone := range s.Lists {
		for id := -1; id <= 20; id++ {
			for place := range len(s.Lists[zone]) + 1 {
				other := cloned(s)
				other.Lists[zone] = slices.Insert(other.Lists[zone], place, id)
				checkTold(t, other, api.ErrZone)
			}
		}
		for place := range s.Lists[zone] {
			other := cloned(s)
			other.Lists[zone] = slices.Delete(other.Lists[zone], place, place+1)
			checkTold(t, other, api.ErrZone)
		}
	}
}

// someObject is any object that may stand where it says.
func someObject(r *rand.Rand, count int) api.Object {
	o := at(r.Intn(11))
	o[api.FCard], o[api.FAbility], o[api.FSource], o[api.FKnows] = r.Intn(120), r.Intn(4), r.Intn(count+1), r.Intn(4)
	zone := o[api.FZone]
	if zone >= 8 {
		o[api.FOwner], o[api.FControl], o[api.FKind] = r.Intn(2), r.Intn(2), r.Intn(3)
	}
	if zone == 8 {
		o[api.FKind] = r.Intn(2)
		for field, limits := range objectLimits(count) {
			if (field >= api.FTapped && field <= api.FBlock) && r.Intn(2) == 0 {
				o[field] = limits[0] + r.Intn(limits[1]-limits[0]+1)
			}
		}
	}
	if zone == 9 {
		o[api.FTarget] = r.Intn(count+3) - 2
	}
	return o
}

// someState is any right one, of up to so many objects.
func someState(r *rand.Rand, most int) api.State {
	count := r.Intn(most + 1)
	var objects []api.Object
	for range count {
		objects = append(objects, someObject(r, count))
	}
	s := holding(objects...)
	for _, list := range s.Lists {
		r.Shuffle(len(list), func(i, j int) { list[i], list[j] = list[j], list[i] })
	}
	for field, limits := range playerLimits {
		s.Players[0][field] = limits[0] + r.Intn(limits[1]-limits[0]+1)
		s.Players[1][field] = limits[0] + r.Intn(limits[1]-limits[0]+1)
	}
	for field, limits := range gameLimits {
		s.Game[field] = limits[0] + r.Intn(limits[1]-limits[0]+1)
	}
	return s
}

// disturb changes one thing of a state, so that it is mostly not right any more.
func disturb(r *rand.Rand, s *api.State) {
	n := edges[r.Intn(len(edges))]
	if r.Intn(2) == 0 {
		n = r.Intn(5) - 1
	}
	zone, other := r.Intn(11), r.Intn(11)
	switch r.Intn(8) {
	case 0:
		s.Players[r.Intn(2)][r.Intn(9)] = n
	case 1:
		s.Game[r.Intn(7)] = n
	case 2:
		s.Lists[zone] = append(s.Lists[zone], n)
	case 3:
		s.Lists[zone], s.Lists[other] = s.Lists[other], s.Lists[zone]
	case 4:
		s.Lists[zone] = s.Lists[zone][:len(s.Lists[zone])/2]
	default:
		if len(s.Objects) > 0 {
			s.Objects[r.Intn(len(s.Objects))][r.Intn(18)] = n
		}
	}
}

// P10.1: any states, right ones and such as are disturbed in up to three things.
func TestCheckAny(t *testing.T) {
	r := rand.New(rand.NewSource(10))
	met := map[error]int{}
	for range 20000 {
		s := someState(r, 12)
		checkTold(t, s, nil)
		for range 3 {
			disturb(r, &s)
			met[checkCheck(t, s)]++
		}
	}
	for _, err := range []error{nil, api.ErrRange, api.ErrZone, api.ErrForm} {
		if met[err] < 1000 {
			t.Errorf("%v was met %d times only", err, met[err])
		}
	}
}

// anyStates are right states and others, some of them with numbers and lists that no right one has.
func anyStates() []api.State {
	r := rand.New(rand.NewSource(11))
	list := []api.State{{}, rich(), {Objects: []api.Object{{}}}, {Objects: []api.Object{}}}
	for range 300 {
		s := someState(r, 12)
		list = append(list, cloned(s))
		for range 4 {
			disturb(r, &s)
		}
		list = append(list, s)
	}
	full := api.State{Objects: slices.Repeat([]api.Object{{mark, api.FKind: 2}}, 500)}
	for zone := range full.Lists {
		full.Lists[zone] = slices.Repeat([]int{zone, mark, math.MinInt}, 200)
	}
	return append(list, full)
}

// fillLists writes numbers into the whole room of each list, spare room included: into each list its own.
func fillLists(s *api.State, from int) {
	whole := s.Objects[:cap(s.Objects)]
	for i := range whole {
		whole[i] = api.Object{from, from + i}
	}
	for zone, list := range s.Lists {
		list = list[:cap(list)]
		for i := range list {
			list[i] = from + 1000*zone + i
		}
	}
}

// isFilled tells whether each list has in its whole room what was written into it.
func isFilled(s *api.State, from int) bool {
	for i, o := range s.Objects[:cap(s.Objects)] {
		if o != (api.Object{from, from + i}) {
			return false
		}
	}
	for zone, list := range s.Lists {
		for i, n := range list[:cap(list)] {
			if n != from+1000*zone+i {
				return false
			}
		}
	}
	return true
}

// P10.1: a copy is the same, and apart: neither it and the state, nor two of its lists, share anything.
func TestCopy(t *testing.T) {
	for _, s := range anyStates() {
		argument := cloned(s)
		got := Copy(argument)
		if !equal(got, s) {
			t.Fatalf("Copy(%v) = %v", s, got)
		}
		if !Same(got, argument) || Check(got) != Check(s) {
			t.Fatalf("the copy of %v isn't the same", s)
		}
		fillLists(&got, 5000000)
		if !isFilled(&got, 5000000) {
			t.Fatalf("two lists of the copy of %v share room", s)
		}
		for i := range 2 {
			got.Players[i] = [9]int{mark}
		}
		got.Game = [7]int{mark}
		if !isKept(argument, s) {
			t.Fatalf("Copy changed %v to %v, or the copy shares its room", s, argument)
		}
		got = Copy(argument)
		fillLists(&argument, 9000000)
		argument.Players, argument.Game = [2][9]int{}, [7]int{}
		if !equal(got, s) {
			t.Fatalf("the copy of %v hangs on it", s)
		}
	}
}

// checkSame asks whether two are the same, both ways round.
func checkSame(t *testing.T, a, b api.State, want bool) {
	t.Helper()
	x, y := cloned(a), cloned(b)
	if Same(x, y) != want || Same(y, x) != want {
		t.Fatalf("Same(%v, %v) isn't %v, or not both ways round", a, b, want)
	}
	if !isKept(x, a) || !isKept(y, b) {
		t.Fatalf("Same changed %v or %v", a, b)
	}
}

// P10.1: two states are the same only if each number is.
func TestSameEachNumber(t *testing.T) {
	s := rich()
	checkSame(t, s, rich(), true)
	if !Same(s, s) {
		t.Fatal("a state isn't the same as itself")
	}
	differs := func(change func(other *api.State)) {
		t.Helper()
		other := cloned(s)
		change(&other)
		checkSame(t, s, other, false)
	}
	for _, more := range []int{1, -1, 1 << 8, 1 << 32, math.MinInt} {
		for id := range s.Objects {
			for field := range 18 {
				differs(func(other *api.State) { other.Objects[id][field] += more })
			}
		}
		for zone, list := range s.Lists {
			for place := range list {
				differs(func(other *api.State) { other.Lists[zone][place] += more })
			}
		}
		for field := range 9 {
			differs(func(other *api.State) { other.Players[0][field] += more })
			differs(func(other *api.State) { other.Players[1][field] += more })
		}
		for field := range 7 {
			differs(func(other *api.State) { other.Game[field] += more })
		}
	}
}

// P10.1: two states are the same only if they have as many objects, and as many numbers in each list, in the same order; of whatever numbers.
func TestSameLists(t *testing.T) {
	s := rich()
	differs := func(change func(other *api.State)) {
		t.Helper()
		other := cloned(s)
		change(&other)
		checkSame(t, s, other, false)
	}
	differs(func(other *api.State) { other.Objects = append(other.Objects, api.Object{}) })
	differs(func(other *api.State) { other.Objects = other.Objects[:len(other.Objects)-1] })
	differs(func(other *api.State) { other.Objects = nil })
	differs(func(other *api.State) {
		other.Objects[0], other.Objects[1] = other.Objects[1], other.Objects[0]
	})
	differs(func(other *api.State) {
		other.Players[0], other.Players[1] = other.Players[1], other.Players[0]
	})
	for zone := range 11 {
		differs(func(other *api.State) { other.Lists[zone] = append(other.Lists[zone], 0) })
		differs(func(other *api.State) { other.Lists[zone] = other.Lists[zone][:len(other.Lists[zone])-1] })
		differs(func(other *api.State) { other.Lists[zone] = nil })
		if len(s.Lists[zone]) > 1 {
			differs(func(other *api.State) { slices.Reverse(other.Lists[zone]) })
		}
		next := (zone + 1) % 11
		differs(func(other *api.State) {
			other.Lists[zone], other.Lists[next] = other.Lists[next], other.Lists[zone]
		})
		// The same numbers one behind the other, but cut in another place.
		differs(func(other *api.State) {
			last := len(other.Lists[zone]) - 1
			other.Lists[next] = slices.Concat(other.Lists[zone][last:], other.Lists[next])
			other.Lists[zone] = other.Lists[zone][:last]
		})
	}
	list := anyStates()
	for i, a := range list {
		checkSame(t, a, a, true)
		for _, b := range list[:min(i, 40)] {
			checkSame(t, a, b, equal(a, b))
		}
	}
}

// P10.1: nil and empty lists are the same.
func TestSameEmpty(t *testing.T) {
	empty := api.State{Objects: []api.Object{}}
	for zone := range empty.Lists {
		empty.Lists[zone] = []int{}
	}
	roomy := api.State{Objects: make([]api.Object, 0, 4)}
	for zone := range roomy.Lists {
		roomy.Lists[zone] = make([]int, 0, zone)
	}
	for _, a := range []api.State{{}, empty, roomy} {
		for _, b := range []api.State{{}, empty, roomy} {
			if !Same(a, b) {
				t.Errorf("%#v and %#v aren't the same", a, b)
			}
			if !Same(Copy(a), b) {
				t.Errorf("the copy of %#v and %#v aren't the same", a, b)
			}
		}
		if Check(a) != nil {
			t.Errorf("%#v isn't right", a)
		}
	}
}

// P10.1: how many objects are cards, of whatever states; tokens, abilities and what is of no kind don't count.
func TestCards(t *testing.T) {
	if got := Cards(New()); got != 0 {
		t.Errorf("Cards of no objects = %d", got)
	}
	if got := Cards(rich()); got != 15 {
		t.Errorf("Cards(rich) = %d", got)
	}
	for _, c := range []struct {
		kinds []int
		want  int
	}{
		{[]int{0}, 1}, {[]int{1}, 0}, {[]int{2}, 0}, {[]int{0, 0, 0}, 3}, {[]int{0, 1, 2, 0}, 2}, {[]int{2, 1, 0}, 1}, {[]int{3, -1, 1 << 32, 256, 0}, 1},
	} {
		for zone := range 11 {
			var s api.State
			for _, kind := range c.kinds {
				s.Objects = append(s.Objects, api.Object{api.FZone: zone, api.FKind: kind, api.FCard: 3})
			}
			if got := Cards(s); got != c.want {
				t.Errorf("Cards of kinds %v = %d, not %d", c.kinds, got, c.want)
			}
		}
	}
	if got := Cards(api.State{Objects: make([]api.Object, 1000)}); got != 1000 {
		t.Errorf("Cards of 1000 = %d", got)
	}
	for _, s := range anyStates() {
		argument, want := cloned(s), len(s.Objects)
		for _, o := range s.Objects {
			if o[13] != 0 {
				want--
			}
		}
		if got := Cards(argument); got != want || !isKept(argument, s) {
			t.Fatalf("Cards(%v) = %d, not %d, or it was changed", s, got, want)
		}
	}
}

// P10.1: the lists of players, written out, and of all else none.
func TestZone(t *testing.T) {
	want := map[[2]int]int{
		{0, 0}: 0, {0, 1}: 1, {2, 0}: 2, {2, 1}: 3, {4, 0}: 4, {4, 1}: 5, {6, 0}: 6, {6, 1}: 7,
	}
	numbers := slices.Clone(far)
	for n := -30; n <= 30; n++ {
		numbers = append(numbers, n)
	}
	found := 0
	for _, base := range numbers {
		for _, player := range numbers {
			zone, ok := want[[2]int{base, player}]
			if !ok {
				zone = -1
			} else {
				found++
			}
			if got := Zone(base, player); got != zone {
				t.Errorf("Zone(%d, %d) = %d, not %d", base, player, got, zone)
			}
		}
	}
	if found != len(want) {
		t.Errorf("%d lists of players were asked for, not %d", found, len(want))
	}
}

// P10.1: whose each list is, written out, and of all else nobody's; Zone leads back.
func TestSide(t *testing.T) {
	type side struct {
		base, player int
		owned        bool
	}
	want := [11]side{
		{0, 0, true}, {0, 1, true}, {2, 0, true}, {2, 1, true}, {4, 0, true}, {4, 1, true}, {6, 0, true}, {6, 1, true},
		{8, 0, false}, {9, 0, false}, {10, 0, false},
	}
	for zone, w := range want {
		base, player, owned := Side(zone)
		if (side{base, player, owned}) != w {
			t.Errorf("Side(%d) = %d, %d, %v", zone, base, player, owned)
		}
		back := -1
		if owned {
			back = zone
		}
		if got := Zone(base, player); got != back {
			t.Errorf("Zone(Side(%d)) = %d", zone, got)
		}
	}
	for zone := -300; zone <= 300; zone++ {
		if base, player, owned := Side(zone); (zone < 0 || zone > 10) && (base != 0 || player != 0 || owned) {
			t.Errorf("Side(%d) = %d, %d, %v", zone, base, player, owned)
		}
	}
	for _, zone := range far {
		if base, player, owned := Side(zone); base != 0 || player != 0 || owned {
			t.Errorf("Side(%d) = %d, %d, %v", zone, base, player, owned)
		}
	}
}

// P10.1: the last number of each list, whatever it is; none of empty lists, and of lists that aren't there.
func TestTop(t *testing.T) {
	s := rich()
	for zone, want := range []int{16, 19, 17, 3, 4, 18, 6, 7, 9, 12, 15} {
		if got, ok := Top(s, zone); got != want || !ok {
			t.Errorf("Top(rich, %d) = %d, %v", zone, got, ok)
		}
		if got, ok := Top(New(), zone); got != 0 || ok {
			t.Errorf("Top(New(), %d) = %d, %v", zone, got, ok)
		}
		var one api.State
		for _, n := range edges {
			one.Lists[zone] = []int{n}
			if got, ok := Top(one, zone); got != n || !ok {
				t.Errorf("Top of %d in %d = %d, %v", n, zone, got, ok)
			}
			if got, ok := Top(one, (zone+1)%11); got != 0 || ok {
				t.Errorf("Top of a list beside %d = %d, %v", zone, got, ok)
			}
		}
	}
	for _, s := range anyStates() {
		argument := cloned(s)
		for _, zone := range append([]int{-300, -100, -12, -11, -10, -9, -8, -3, -2, -1, 11, 12, 13, 16, 18, 19, 100, 300}, far...) {
			if got, ok := Top(argument, zone); got != 0 || ok {
				t.Fatalf("Top of list %d = %d, %v", zone, got, ok)
			}
		}
		for zone, list := range s.Lists {
			want := 0
			for _, want = range list {
			}
			if got, ok := Top(argument, zone); got != want || ok != (len(list) > 0) {
				t.Fatalf("Top(%v, %d) = %d, %v", s, zone, got, ok)
			}
		}
		if !isKept(argument, s) {
			t.Fatalf("Top changed %v to %v", s, argument)
		}
	}
}
