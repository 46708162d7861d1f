package target

import (
	"math"
	"math/rand"
	"slices"
	"testing"

	"mulligan/api"
	"mulligan/state"
)

// far are numbers that no kind, player, target or object has.
var far = []int{
	math.MinInt, math.MinInt + 1, math.MinInt + 2, -1 << 62, -1<<32 - 2, -1<<32 - 1, -1 << 32, -1<<32 + 1, -1<<32 + 2, -1 << 30,
	-402, -401, -400, -258, -257, -256, -255, -254, -7, -6, -5, -4, -3,
	402, 1 << 30, 1<<30 + 1, 1 << 32, 1<<32 + 1, 1<<32 + 2, 1<<32 + 5, 1 << 62, math.MaxInt - 2, math.MaxInt - 1, math.MaxInt,
}

// kinds are the kinds of targets, by their numbers.
var kinds = []int{0, 1, 2, 3, 4, 5}

// isBeast tells whether a card is a Beast, by the chapter of the table.
func isBeast(n int) bool { return n >= 10 && n <= 49 || n == 108 || n >= 111 && n <= 119 }

// in is a card in a list, in one of a player's own as that one's, elsewhere as player 0's.
func in(n, zone int) api.Object {
	o := api.Object{0: n, 3: zone}
	if zone < 8 {
		o[1], o[2] = zone%2, zone%2
	}
	return o
}

// with is an object with other numbers in some fields, told as field, number, and so on.
func with(o api.Object, fields ...int) api.Object {
	for at := 0; at < len(fields); at += 2 {
		o[fields[at]] = fields[at+1]
	}
	return o
}

// holding is the state of objects, each of which stands in the list that it says, in the order of their numbers.
func holding(objects ...api.Object) api.State {
	s := api.State{Objects: slices.Clone(objects)}
	for id, o := range objects {
		if zone := o[3]; zone >= 0 && zone < 11 {
			s.Lists[zone] = append(s.Lists[zone], id)
		}
	}
	return s
}

// lined is a state whose list has this order.
func lined(s api.State, zone int, ids ...int) api.State {
	s.Lists[zone] = ids
	return s
}

// rich is a right state with all sorts of objects, in lists that don't rise.
func rich() api.State {
	s := holding(
		in(10, 9),                   // 0: a Beast on the stack
		with(in(114, 8), 13, 1),     // 1: a token of player 0
		with(in(50, 9), 1, 1, 2, 1), // 2: Magic on the stack
		in(84, 8),                   // 3: a Relic
		with(in(13, 9), 13, 2),      // 4: a Beast's ability on the stack
		with(in(45, 8), 1, 1, 2, 1), // 5: a Beast of player 1
		in(10, 0), in(10, 3), in(10, 4), in(10, 7),
		with(in(108, 8), 1, 1),       // 10: a Beast of player 1 that player 0 controls
		with(in(2, 8), 1, 1, 2, 1),   // 11: a Source
		with(in(112, 10), 13, 1),     // 12: a token that is gone
		with(in(119, 9), 13, 1),      // 13: a token on the stack
		with(in(90, 9), 13, 2, 2, 1), // 14: a Relic's ability on the stack
		with(in(58, 8), 2, 1),        // 15: Magic on the field
		in(85, 9),                    // 16: a Relic on the stack
	)
	s = lined(s, 8, 11, 10, 3, 1, 15, 5)
	return lined(s, 9, 14, 2, 16, 0, 4, 13)
}

// crowd is a right state of as many objects as there may be: Beasts and Relics, whose list falls.
func crowd() api.State {
	s := holding(slices.Repeat([]api.Object{in(10, 8), in(84, 8)}, 200)...)
	slices.Reverse(s.Lists[8])
	return s
}

// queue is a right state of as many objects as there may be, all on the stack: cards and abilities in turn.
func queue() api.State {
	s := holding(slices.Repeat([]api.Object{in(50, 9), with(in(90, 9), 13, 2)}, 200)...)
	slices.Reverse(s.Lists[9])
	return s
}

// allows tells, by the chapter's words, whether a kind allows a target in a right state.
func allows(s api.State, kind, self, target int) bool {
	id := target - 1
	there := target > 0 && target <= len(s.Objects)
	stands := func(zone int) bool { return there && slices.Contains(s.Lists[zone], id) }
	creature := stands(8) && isBeast(s.Objects[id][0])
	player := target == -1 || target == -2
	return kind == 0 && target == 0 ||
		kind == 1 && creature ||
		kind == 2 && player ||
		kind == 3 && (creature || player) ||
		kind == 4 && stands(9) && s.Objects[id][13] != 2 && id != self ||
		kind == 5 && stands(8)
}

// checkKind asks Check of each target about a right state's objects, and some far off, and List, for one kind and who aims.
func checkKind(t *testing.T, s api.State, kind, self int) {
	t.Helper()
	var want []int
	for target := -4; target <= len(s.Objects)+3; target++ {
		var err error = api.ErrTarget
		if allows(s, kind, self, target) {
			want, err = append(want, target), nil
		}
		if got := Check(s, kind, self, target); got != err {
			t.Fatal(kind, self, target, got, err, s)
		}
	}
	checkList(t, s, kind, self, want...)
}

// checkList asks List of a right state.
func checkList(t *testing.T, s api.State, kind, self int, want ...int) {
	t.Helper()
	if err := state.Check(s); err != nil {
		t.Fatal("the state isn't right", err, s)
	}
	if got := List(s, kind, self); !slices.Equal(got, want) {
		t.Fatal(kind, self, got, want, s)
	}
}

// checkRight asks of a right state all kinds, whoever aims.
func checkRight(t *testing.T, s api.State) {
	t.Helper()
	for _, kind := range kinds {
		for self := -2; self <= len(s.Objects)+1; self++ {
			checkKind(t, s, kind, self)
		}
	}
}

// P18.1: the chapter's examples.
func TestExamples(t *testing.T) {
	for _, s := range []api.State{{}, state.New()} {
		checkList(t, s, api.Any, 0, -2, -1)
		checkList(t, s, api.NoTarget, 0, 0)
	}
}

// P18.1: an empty state, for each kind, whoever aims: there are players alone.
func TestEmpty(t *testing.T) {
	for _, self := range append([]int{-2, -1, 0, 1, 2}, far...) {
		for kind, want := range [][]int{{0}, nil, {-2, -1}, {-2, -1}, nil, nil} {
			checkList(t, api.State{}, kind, self, want...)
			checkKind(t, api.State{}, kind, self)
		}
	}
}

// P18.1: the rich state, written out: creatures of both players and tokens, all on the field, the stack without abilities and the one that aims.
func TestByHand(t *testing.T) {
	s := rich()
	for _, self := range append([]int{-1, 1, 3, 4, 6, 12, 14, 17}, far...) {
		for kind, want := range [][]int{
			{0}, {2, 6, 11}, {-2, -1}, {-2, -1, 2, 6, 11}, {1, 3, 14, 17}, {2, 4, 6, 11, 12, 16},
		} {
			checkList(t, s, kind, self, want...)
		}
	}
	for self, want := range map[int][]int{0: {3, 14, 17}, 2: {1, 14, 17}, 13: {1, 3, 17}, 16: {1, 3, 14}} {
		checkList(t, s, 4, self, want...)
		for _, target := range []int{1, 3, 14, 17} {
			if got := Check(s, 4, self, target) == nil; got != (target != self+1) {
				t.Error(self, target, got)
			}
		}
	}
	checkRight(t, s)
}

// P18.1: who aims is left out of Cast alone: a creature may aim at itself, and what is on the field, too.
func TestSelf(t *testing.T) {
	s := holding(in(13, 8), in(50, 9), with(in(52, 9), 13, 1))
	for self := range 3 {
		for kind, want := range [][]int{{0}, {1}, {-2, -1}, {-2, -1, 1}, nil, {1}} {
			if kind != 4 {
				checkList(t, s, kind, self, want...)
			}
		}
	}
	checkList(t, s, 4, 0, 2, 3)
	checkList(t, s, 4, 1, 3)
	checkList(t, s, 4, 2, 2)
	// Who aims is told by its number, not as a target.
	checkList(t, s, 4, 3, 2, 3)
	checkRight(t, s)
}

// P18.1: each card, as a card, a token and an ability, in each list where it may stand, beside creatures and what is on the stack.
func TestEachCard(t *testing.T) {
	asked := map[[2]int]int{}
	for n := range 120 {
		for zone := range 11 {
			for sort := range 3 {
				s := holding(in(111, 8), with(in(n, zone), 13, sort), in(100, 9))
				if state.Check(s) != nil {
					continue
				}
				asked[[2]int{zone, sort}]++
				creature, thing, cast := zone == 8 && isBeast(n), zone == 8, zone == 9 && sort != 2
				for _, kind := range kinds {
					for self := -1; self <= 3; self++ {
						want := (kind == 1 || kind == 3) && creature || kind == 5 && thing || kind == 4 && cast && self != 1
						if got := Check(s, kind, self, 2) == nil; got != want {
							t.Fatal(n, zone, sort, kind, self, got)
						}
						checkKind(t, s, kind, self)
					}
				}
			}
		}
	}
	if len(asked) != 8+2+3+3 {
		t.Error(asked)
	}
}

// P18.1: neither owner nor control, nor any other field of an object, changes what may be aimed at.
func TestOtherFields(t *testing.T) {
	for _, fields := range [][]int{
		{1, 1}, {2, 1}, {1, 1, 2, 1}, {4, 1}, {5, 1}, {6, 9}, {7, 3}, {8, -9}, {9, -9}, {10, 255}, {11, 1}, {12, 1}, {12, 2}, {13, 1}, {14, 3}, {15, 1}, {17, 1}, {17, 2}, {17, 3},
	} {
		s := holding(with(in(30, 8), fields...), in(50, 9))
		for kind, want := range [][]int{{0}, {1}, {-2, -1}, {-2, -1, 1}, {2}, {1}} {
			checkList(t, s, kind, 0, want...)
		}
		checkRight(t, s)
	}
	for _, fields := range [][]int{{1, 1}, {2, 1}, {1, 1, 2, 1}, {13, 1}, {14, 3}, {15, 1}, {15, 2}, {16, -2}, {16, -1}, {16, 1}, {16, 2}, {17, 1}, {17, 2}, {17, 3}} {
		s := holding(in(30, 8), with(in(30, 9), fields...))
		for kind, want := range [][]int{{0}, {1}, {-2, -1}, {-2, -1, 1}, {2}, {1}} {
			checkList(t, s, kind, 0, want...)
		}
		checkRight(t, s)
	}
}

// P18.1: players may be aimed at whatever they have, and however the game ended.
func TestPlayersAndGame(t *testing.T) {
	s := rich()
	s.Players = [2][9]int{{-3, 1, 2, 3, 4, 5, 1000, 1, 1}, {0, 1000, 0, 7, 0, 9, 0, 0, 1}}
	for result := range 4 {
		s.Game = [7]int{12, 1, 5, 1, 1, 4096, result}
		checkList(t, s, 2, 0, -2, -1)
		checkList(t, s, 3, 0, -2, -1, 2, 6, 11)
		checkRight(t, s)
	}
}

// P18.1: List rises, whatever order lists have.
func TestListsRise(t *testing.T) {
	for _, order := range [][]int{{0, 1, 2, 3}, {3, 2, 1, 0}, {2, 0, 3, 1}, {1, 3, 0, 2}} {
		field := lined(holding(in(10, 8), with(in(11, 8), 2, 1), in(12, 8), with(in(13, 8), 2, 1)), 8, order...)
		for kind, want := range [][]int{{0}, {1, 2, 3, 4}, {-2, -1}, {-2, -1, 1, 2, 3, 4}, nil, {1, 2, 3, 4}} {
			checkList(t, field, kind, 0, want...)
		}
		stack := lined(holding(in(10, 9), in(11, 9), with(in(12, 9), 13, 1), in(13, 9)), 9, order...)
		checkList(t, stack, 4, 9, 1, 2, 3, 4)
		checkList(t, stack, 4, 2, 1, 2, 4)
		checkRight(t, field)
		checkRight(t, stack)
	}
}

// P18.1: as many objects as there may be, on the field and on the stack.
func TestMany(t *testing.T) {
	var odd, all []int
	for target := 1; target <= 400; target++ {
		all = append(all, target)
		if target%2 == 1 {
			odd = append(odd, target)
		}
	}
	field, stack := crowd(), queue()
	for kind, want := range [][]int{{0}, odd, {-2, -1}, append([]int{-2, -1}, odd...), nil, all} {
		checkList(t, field, kind, 0, want...)
	}
	for kind, want := range [][]int{{0}, nil, {-2, -1}, {-2, -1}, odd, nil} {
		checkList(t, stack, kind, -1, want...)
	}
	checkList(t, stack, 4, 0, odd[1:]...)
	checkList(t, stack, 4, 398, odd[:199]...)
	checkList(t, stack, 4, 399, odd...)
	for _, kind := range kinds {
		checkKind(t, field, kind, 399)
		checkKind(t, stack, kind, 200)
	}
}

// P18.1: no kind allows what is neither a player's, nor none, nor an object's that there is.
func TestFarTargets(t *testing.T) {
	for _, s := range []api.State{{}, rich(), crowd(), queue()} {
		for _, kind := range kinds {
			for _, target := range append([]int{len(s.Objects) + 1, len(s.Objects) + 2}, far...) {
				for _, self := range []int{-1, 0, target, target - 1} {
					if got := Check(s, kind, self, target); got != api.ErrTarget {
						t.Fatal(kind, self, target, got)
					}
				}
			}
		}
	}
}

// P18.1: who aims may be any number, also one that no object has: then nothing is left out.
func TestFarSelves(t *testing.T) {
	s := rich()
	for _, self := range append([]int{-3, -2, -1, 17, 18, 19}, far...) {
		for _, kind := range kinds {
			checkKind(t, s, kind, self)
		}
		if self != 0 && Check(s, 4, self, 1) != nil {
			t.Error(self)
		}
	}
}

// P18.1: of a kind that there isn't Check answers ErrKind, whatever the target is, and List none.
func TestWrongKinds(t *testing.T) {
	for _, s := range []api.State{{}, rich(), queue()} {
		for _, kind := range append([]int{-2, -1, 6, 7, 8, 9, 10, 11, 256, 257, 261}, far...) {
			for _, target := range []int{math.MinInt, -3, -2, -1, 0, 1, 2, 3, 6, 17, 18, math.MaxInt} {
				for _, self := range []int{-1, 0, 5} {
					if got := Check(s, kind, self, target); got != api.ErrKind {
						t.Fatal(kind, self, target, got)
					}
				}
			}
			if got := List(s, kind, 0); len(got) != 0 {
				t.Error(kind, got)
			}
		}
	}
}

// wrong is a state that isn't right, and by which error.
type wrong struct {
	s   api.State
	err error
}

// wrongs are states that aren't right; in each of them stand creatures, and cards on the stack.
func wrongs() []wrong {
	list := []wrong{
		{holding(slices.Repeat([]api.Object{in(10, 8), in(50, 9)}, 201)...), api.ErrFull},
		{holding(slices.Repeat([]api.Object{with(in(10, 8), 0, 120)}, 401)...), api.ErrFull},
	}
	for _, fields := range [][]int{
		{0, -1}, {0, 120}, {0, math.MaxInt}, {0, math.MinInt}, {1, 2}, {2, 2}, {2, -1}, {10, 256}, {12, 18}, {13, 3}, {13, -1}, {16, -3}, {16, 18}, {17, 4},
	} {
		for id := range 3 {
			s := rich()
			s.Objects[id] = with(s.Objects[id], fields...)
			list = append(list, wrong{s, api.ErrRange})
		}
	}
	players, game := rich(), rich()
	players.Players[1][0] = 1<<30 + 1
	game.Game[6] = 4
	list = append(list, wrong{players, api.ErrRange}, wrong{game, api.ErrRange})
	for _, field := range [][]int{nil, {11, 10, 3, 1, 15}, {11, 10, 3, 1, 15, 5, 5}, {11, 10, 3, 1, 15, 5, 17}, {11, 10, 3, 1, 15, -1}, {11, 10, 3, 1, 15, 5, 0}} {
		list = append(list, wrong{lined(rich(), 8, field...), api.ErrZone})
	}
	list = append(list, wrong{lined(rich(), 9, 2, 0), api.ErrZone}, wrong{api.State{Objects: []api.Object{in(10, 8)}}, api.ErrZone})
	tapped, aimed := rich(), rich()
	tapped.Objects[0][4] = 1
	aimed.Objects[1][16] = 1
	return append(list, wrong{tapped, api.ErrForm}, wrong{aimed, api.ErrForm})
}

// P18.1: of a state that isn't right Check answers that error, ahead of those of the kind and of the target, and List none.
func TestWrongStates(t *testing.T) {
	for at, row := range wrongs() {
		if err := state.Check(row.s); err != row.err {
			t.Fatal(at, err, row.err)
		}
		for kind := -1; kind <= 6; kind++ {
			for _, self := range []int{-1, 0, 2, 17} {
				for _, target := range append([]int{-2, -1, 0, 1, 2, 3, 6, 14}, far...) {
					if got := Check(row.s, kind, self, target); got != row.err {
						t.Fatal(at, kind, self, target, got, row.err)
					}
				}
				if got := List(row.s, kind, self); len(got) != 0 {
					t.Fatal(at, kind, self, got)
				}
			}
		}
	}
}

// P18.1: the object that a target is: those above 0 alone are one, whether or not there is such an object.
func TestObject(t *testing.T) {
	for _, row := range []struct {
		target, id int
		ok         bool
	}{
		{math.MinInt, 0, false}, {math.MinInt + 1, 0, false}, {-1 << 32, 0, false}, {-400, 0, false}, {-3, 0, false}, {-2, 0, false}, {-1, 0, false}, {0, 0, false},
		{1, 0, true}, {2, 1, true}, {3, 2, true}, {399, 398, true}, {400, 399, true}, {401, 400, true}, {1 << 30, 1<<30 - 1, true}, {1 << 32, 1<<32 - 1, true},
		{1<<32 + 1, 1 << 32, true}, {1 << 62, 1<<62 - 1, true}, {math.MaxInt - 1, math.MaxInt - 2, true}, {math.MaxInt, math.MaxInt - 1, true},
	} {
		if id, ok := Object(row.target); id != row.id || ok != row.ok {
			t.Error(row, id, ok)
		}
	}
}

// P18.1: the player that a target is: -1 is 0, -2 is 1, and no other is one.
func TestPlayer(t *testing.T) {
	for target, want := range map[int]int{-1: 0, -2: 1} {
		if player, ok := Player(target); player != want || !ok {
			t.Error(target, player, ok)
		}
	}
	for _, target := range append([]int{0, 1, 2, 3, 4, 254, 255, 256, 400, 401}, far...) {
		if player, ok := Player(target); player != 0 || ok {
			t.Error(target, player, ok)
		}
	}
}

// P18.1: the target that an object is; 0 of a number below 0, and of the greatest of all.
func TestAt(t *testing.T) {
	for id, want := range map[int]int{
		math.MinInt: 0, math.MinInt + 1: 0, math.MinInt + 2: 0, -1 << 62: 0, -1 << 32: 0, -1<<32 + 1: 0, -401: 0, -3: 0, -2: 0, -1: 0,
		0: 1, 1: 2, 2: 3, 398: 399, 399: 400, 400: 401, 401: 402, 1<<30 - 1: 1 << 30, 1 << 30: 1<<30 + 1, 1<<31 - 1: 1 << 31, 1<<32 - 1: 1 << 32, 1 << 32: 1<<32 + 1, 1 << 62: 1<<62 + 1,
		math.MaxInt - 2: math.MaxInt - 1, math.MaxInt - 1: math.MaxInt, math.MaxInt: 0,
	} {
		if got := At(id); got != want {
			t.Error(id, got, want)
		}
	}
}

// P18.1: At and Object lead to one another: a target is an object or a player or neither, never both.
func TestThereAndBack(t *testing.T) {
	numbers := slices.Clone(far)
	for n := -500; n <= 500; n++ {
		numbers = append(numbers, n)
	}
	for _, n := range numbers {
		id, isObject := Object(At(n))
		if want := n >= 0 && n < math.MaxInt; isObject != want || want && id != n || !want && id != 0 {
			t.Error(n, id, isObject)
		}
		id, isObject = Object(n)
		if isObject && At(id) != n {
			t.Error(n, id)
		}
		if _, isPlayer := Player(n); isPlayer && isObject || isObject != (n > 0) || isPlayer != (n == -1 || n == -2) {
			t.Error(n, isPlayer, isObject)
		}
	}
}

// P18.1: the other player of 0 and 1, and -1 of any other number.
func TestFoe(t *testing.T) {
	for player, want := range []int{1, 0, -1, -1, -1} {
		if got := Foe(player); got != want {
			t.Error(player, got, want)
		}
	}
	for _, player := range append([]int{-2, -1, 254, 255, 256, 257}, far...) {
		if got := Foe(player); got != -1 {
			t.Error(player, got)
		}
	}
}

// some is a right state by chance, with creatures and what is on the stack above all, whose lists have any order.
func some(r *rand.Rand) api.State {
	var objects []api.Object
	for range r.Intn(14) {
		zone := []int{8, 8, 9, 9, r.Intn(11)}[r.Intn(5)]
		o := in([]int{r.Intn(120), 10 + r.Intn(40)}[r.Intn(2)], zone)
		o[14], o[15], o[17] = r.Intn(4), r.Intn(2), r.Intn(4)
		if zone >= 8 {
			o[1], o[13] = r.Intn(2), r.Intn(2)
			o[2] = o[1]
		}
		switch zone {
		case 8:
			o = with(o, 2, r.Intn(2), 4, r.Intn(2), 5, r.Intn(2), 6, r.Intn(6), 7, r.Intn(4), 8, r.Intn(7)-3, 9, r.Intn(7)-3, 10, r.Intn(256), 11, r.Intn(2), 12, r.Intn(2))
		case 9:
			o = with(o, 2, r.Intn(2), 13, r.Intn(3), 16, r.Intn(4)-2)
		case 10:
			o[13] = r.Intn(3)
		}
		objects = append(objects, o)
	}
	s := holding(objects...)
	for _, list := range s.Lists {
		r.Shuffle(len(list), func(i, j int) { list[i], list[j] = list[j], list[i] })
	}
	return s
}

// P18.1: all kinds of right states by chance, whoever aims; what List answers is what Check allows.
func TestSome(t *testing.T) {
	r := rand.New(rand.NewSource(18))
	var most [6]int
	for range 1000 {
		s := some(r)
		checkRight(t, s)
		for _, kind := range kinds {
			most[kind] = max(most[kind], len(List(s, kind, -1)))
		}
	}
	if most[0] != 1 || most[1] < 6 || most[2] != 2 || most[3] != most[1]+2 || most[4] < 5 || most[5] < 8 {
		t.Error("few targets", most)
	}
}

// P18.1: where one field of an object of a right state was changed by chance, and the state isn't right any more, Check answers that error, and List none.
func TestDisturbed(t *testing.T) {
	r := rand.New(rand.NewSource(181))
	errs := map[error]int{}
	for range 3000 {
		s := some(r)
		if len(s.Objects) == 0 {
			continue
		}
		s.Objects[r.Intn(len(s.Objects))][r.Intn(18)] = r.Intn(12) - 3
		err := state.Check(s)
		errs[err]++
		for _, kind := range kinds {
			if err == nil {
				checkKind(t, s, kind, 0)
			} else if got := Check(s, kind, 0, 0); got != err || len(List(s, kind, 0)) != 0 {
				t.Fatal(kind, got, err, s)
			}
		}
	}
	if errs[nil] < 100 || errs[api.ErrRange] < 100 || errs[api.ErrZone] < 100 || errs[api.ErrForm] < 100 {
		t.Error("few errors", errs)
	}
}

// roomy is a state apart, in the spare room of whose lists stands what no call may write over.
func roomy(s api.State) api.State {
	s.Objects = append(slices.Clone(s.Objects), api.Object{0: -7, 3: 8}, api.Object{0: -7})[:len(s.Objects)]
	for zone, list := range s.Lists {
		s.Lists[zone] = append(slices.Clone(list), -7, -7)[:len(list)]
	}
	return s
}

// whole is a state apart with all that stands in the spare room of its lists.
func whole(s api.State) api.State {
	s.Objects = slices.Clone(s.Objects[:cap(s.Objects)])
	for zone, list := range s.Lists {
		s.Lists[zone] = slices.Clone(list[:cap(list)])
	}
	return s
}

// P18.1, rules 5 and 8: no call changes what is handed in or keeps it; what List answers is new memory; the same question has the same answer.
func TestApart(t *testing.T) {
	r := rand.New(rand.NewSource(5))
	states := []api.State{{}, rich(), lined(holding(in(10, 8), in(11, 8), in(50, 9)), 8, 1, 0)}
	for range 200 {
		states = append(states, some(r))
	}
	for _, row := range wrongs() {
		states = append(states, row.s)
	}
	for _, s := range states {
		s := roomy(s)
		was := whole(s)
		for _, kind := range append([]int{-1, 6}, kinds...) {
			first := List(s, kind, 0)
			same := slices.Clone(first)
			err := Check(s, kind, 0, 1)
			for place := range first[:cap(first)] {
				first[:cap(first)][place] = -9
			}
			again := List(s, kind, 0)
			if !slices.Equal(again, same) || Check(s, kind, 0, 1) != err {
				t.Fatal(kind, again, same)
			}
		}
		if !state.Same(whole(s), was) {
			t.Fatal("what was handed in was changed", s, was)
		}
	}
}

// P18.1: the kinds that these tests take by their numbers are those that the chapter names.
func TestTaken(t *testing.T) {
	if !slices.Equal(kinds, []int{api.NoTarget, api.Creature, api.Player, api.Any, api.Cast, api.Thing}) || api.Targets != len(kinds) {
		t.Error("other kinds of targets")
	}
}
