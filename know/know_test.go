package know

import (
	"math"
	"math/rand"
	"slices"
	"testing"

	"mulligan/api"
	"mulligan/event"
	"mulligan/state"
)

// numbers are such as an FKnows, players or a place may be handed in as, right or wrong.
var numbers = []int{
	math.MinInt, math.MinInt + 1, math.MinInt + 3, -1 << 32, -1<<32 + 1, -65, -64, -63, -9, -8, -7, -6, -5, -4, -3, -2, -1,
	0, 1, 2, 3, 4, 5, 6, 7, 8, 9, 10, 11, 16, 17, 18, 31, 32, 62, 63, 64, 65, 255, 256, 257, 1<<30 - 1, 1 << 30, 1<<30 + 1,
	1 << 32, 1<<32 + 1, 1<<32 + 2, 1<<32 + 3, 1 << 62, math.MaxInt - 2, math.MaxInt - 1, math.MaxInt,
}

// isOdd tells whether a number is odd, below 0 too.
func isOdd(n int) bool { return n%2 != 0 }

// half is the half of a number, the lesser one of two.
func half(n int) int {
	if isOdd(n) {
		return (n - 1) / 2
	}
	return n / 2
}

// knowing is which players a number's lowest two bits stand for.
func knowing(n int) [2]bool {
	if n == math.MinInt {
		return [2]bool{}
	}
	return [2]bool{isOdd(n), isOdd(half(n))}
}

// shown is an FKnows with the players of a number, by sums.
func shown(knows, players int) int {
	for player, worth := range []int{1, 2} {
		if knowing(players)[player] && !knowing(knows)[player] {
			knows += worth
		}
	}
	return knows
}

// hidden is an FKnows without the players of a number, by differences.
func hidden(knows, players int) int {
	for player, worth := range []int{1, 2} {
		if knowing(players)[player] && knowing(knows)[player] {
			knows -= worth
		}
	}
	return knows
}

// withKnows is an object that has another number in each field, and this FKnows.
func withKnows(knows int) api.Object {
	var o api.Object
	for field := range o {
		o[field] = 1<<20 + field
	}
	o[17] = knows
	return o
}

// at is a card of a player that stands in a list and is known to some; in a list of one player's own it is that one's.
func at(zone, card, knows int) api.Object {
	o := api.Object{0: card, 3: zone, 17: knows}
	if zone < 8 {
		o[1], o[2] = zone%2, zone%2
	}
	return o
}

// holding is the state of objects, each of which stands in the list that it says, if there is such a one.
func holding(objects ...api.Object) api.State {
	s := api.State{Objects: slices.Clone(objects)}
	for id, o := range objects {
		if zone := o[3]; zone >= 0 && zone < 11 {
			s.Lists[zone] = append(s.Lists[zone], id)
		}
	}
	s.Players = [2][9]int{{20, 1, 2, 3, 4, 5, 1000, 1, 0}, {-3, 1000, 0, 7, 0, 9, 0, 0, 1}}
	s.Game = [7]int{12, 1, 5, 1, 1, 4096, 2}
	return s
}

// fighter is a creature on the field, all fields of which are set.
func fighter(knows int) api.Object {
	return api.Object{113, 1, 1, 8, 1, 1, 3, 2, -4, 5, 130, 1, 1, 1, 3, 1, 0, knows}
}

// missile is an ability on the stack, all fields of which are set that may be.
func missile(knows int) api.Object {
	return api.Object{0: 51, 1: 1, 2: 0, 3: 9, 13: 2, 14: 3, 15: 1, 16: -2, 17: knows}
}

// rich is a right state with each number of an FKnows, in each sort of list.
func rich() api.State {
	return holding(
		at(0, 119, 0), at(1, 7, 2), at(2, 12, 1), at(3, 64, 2), at(4, 3, 3), at(5, 50, 0), at(6, 4, 1), at(7, 9, 2),
		fighter(0), fighter(1), fighter(2), fighter(3), missile(0), missile(1), missile(2), missile(3),
		at(10, 22, 0), at(10, 23, 1), at(10, 24, 2), at(10, 25, 3), at(0, 5, 1), at(1, 6, 3), at(2, 31, 2), at(3, 77, 0),
	)
}

// mark is what stands in the spare room of what is handed in.
const mark = -777

// cloned is a state apart, whose lists have spare room in which marks stand.
func cloned(s api.State) api.State {
	apart := s
	apart.Objects = slices.Concat(s.Objects, []api.Object{withKnows(mark), withKnows(mark)})[:len(s.Objects)]
	for zone, list := range s.Lists {
		apart.Lists[zone] = slices.Concat(list, []int{mark, mark})[:len(list)]
	}
	return apart
}

// checkKept asks that a cloned state is as it was, and so are the marks in its spare room.
func checkKept(t *testing.T, apart, was api.State) {
	t.Helper()
	count := len(apart.Objects)
	for _, o := range apart.Objects[count : count+2] {
		if o != withKnows(mark) {
			t.Fatal("spare room of the objects was written", o)
		}
	}
	for zone, list := range apart.Lists {
		if spare := list[len(list) : len(list)+2]; spare[0] != mark || spare[1] != mark {
			t.Fatal("spare room of a list was written", zone, spare)
		}
	}
	if !state.Same(apart, was) {
		t.Fatal("what was handed in was changed", apart, was)
	}
}

// isZero tells whether a state has nothing, lists that are nil among it.
func isZero(s api.State) bool {
	for _, list := range s.Lists {
		if list != nil {
			return false
		}
	}
	return s.Objects == nil && s.Players == [2][9]int{} && s.Game == [7]int{}
}

// P15.1: the chapter's examples.
func TestExamples(t *testing.T) {
	if got := Zone(3); got != 2 {
		t.Error(got)
	}
	s := holding(at(2, 12, 1))
	want := []api.Event{{Kind: 2, A: 0, B: 17, C: 1, D: 3, E: 0}}
	if got := Show(s, 0, 3); !slices.Equal(got, want) {
		t.Error(got)
	}
}

// P15.1: Knows answers by the player's bit of FKnows, and is false of others than the two players.
func TestKnows(t *testing.T) {
	for _, knows := range numbers {
		for _, player := range numbers {
			want := player == 0 && knowing(knows)[0] || player == 1 && knowing(knows)[1]
			if got := Knows(withKnows(knows), player); got != want {
				t.Error(knows, player, got)
			}
			if got := Knows(api.Object{17: knows}, player); got != want {
				t.Error(knows, player, got)
			}
		}
	}
}

// P15.1: Knows, written out.
func TestKnowsByHand(t *testing.T) {
	for _, row := range []struct {
		knows, player int
		want          bool
	}{
		{0, 0, false}, {0, 1, false}, {1, 0, true}, {1, 1, false}, {2, 0, false}, {2, 1, true}, {3, 0, true}, {3, 1, true},
		{4, 0, false}, {4, 1, false}, {4, 2, false}, {7, 2, false}, {-1, 0, true}, {-1, 1, true}, {-1, 2, false}, {-1, 63, false},
		{-1, -1, false}, {-1, 64, false}, {-2, 0, false}, {-2, 1, true}, {-3, 0, true}, {-3, 1, false}, {math.MinInt, 63, false},
	} {
		if got := Knows(api.Object{api.FKnows: row.knows}, row.player); got != row.want {
			t.Error(row, got)
		}
	}
}

// P15.1: Zone, written out for all lists: libraries, hands, graves, exiles, field, stack, gone; 0 of no list.
func TestZone(t *testing.T) {
	for zone, want := range []int{0, 0, 1, 2, 3, 3, 3, 3, 3, 3, 3} {
		if got := Zone(zone); got != want {
			t.Error(zone, got, want)
		}
	}
	for _, zone := range numbers {
		if got := Zone(zone); (zone < 0 || zone > 10) && got != 0 {
			t.Error(zone, got)
		}
	}
	for zone := 11; zone < 2000; zone++ {
		if Zone(zone) != 0 || Zone(-zone) != 0 || Zone(10-zone) != 0 {
			t.Error(zone, Zone(zone), Zone(-zone))
		}
	}
}

// change is Show or Hide.
type change func(api.State, int, int) []api.Event

// checkChange asks one of an object of a state, whose FKnows leads to another number, or to the same, for which there is no event.
func checkChange(t *testing.T, ask change, s api.State, id, players, to int) {
	t.Helper()
	got := ask(s, id, players)
	from := s.Objects[id][17]
	if to == from {
		if got != nil {
			t.Fatal(id, players, from, got)
		}
		return
	}
	if len(got) != 1 || got[0] != (api.Event{Kind: 2, A: id, B: 17, C: from, D: to, E: 0}) {
		t.Fatal(id, players, from, to, got)
	}
}

// P15.1: Show and Hide, written out.
func TestShowAndHideByHand(t *testing.T) {
	for _, row := range []struct{ knows, players, shown, hidden int }{
		{0, 0, 0, 0}, {0, 1, 1, 0}, {0, 2, 2, 0}, {0, 3, 3, 0}, {1, 0, 1, 1}, {1, 1, 1, 0}, {1, 2, 3, 1}, {1, 3, 3, 0},
		{2, 0, 2, 2}, {2, 1, 3, 2}, {2, 2, 2, 0}, {2, 3, 3, 0}, {3, 0, 3, 3}, {3, 1, 3, 2}, {3, 2, 3, 1}, {3, 3, 3, 0},
		{0, 4, 0, 0}, {0, 7, 3, 0}, {0, 6, 2, 0}, {3, 4, 3, 3}, {3, 5, 3, 2}, {0, -1, 3, 0}, {3, -1, 3, 0}, {1, -2, 3, 1}, {2, -3, 3, 2},
		{4, 3, 7, 4}, {5, 3, 7, 4}, {-4, 3, -1, -4}, {-1, 1, -1, -2}, {-1, 3, -1, -4}, {math.MinInt, 2, math.MinInt + 2, math.MinInt},
	} {
		s := holding(at(4, 9, 0), at(2, 12, row.knows), at(4, 9, 3))
		checkChange(t, Show, s, 1, row.players, row.shown)
		checkChange(t, Hide, s, 1, row.players, row.hidden)
	}
}

// P15.1: Show and Hide of each FKnows and each number of players, by the lowest two bits alone, of right states and wrong ones.
func TestShowAndHide(t *testing.T) {
	for _, knows := range numbers {
		for _, players := range numbers {
			lone := api.State{Objects: []api.Object{withKnows(3), withKnows(0), withKnows(knows)}}
			checkChange(t, Show, lone, 2, players, shown(knows, players))
			checkChange(t, Hide, lone, 2, players, hidden(knows, players))
			first := api.State{Objects: []api.Object{{17: knows}}}
			checkChange(t, Show, first, 0, players, shown(knows, players))
			checkChange(t, Hide, first, 0, players, hidden(knows, players))
		}
	}
}

// P15.1: there is no event of an object that a state hasn't.
func TestShowAndHideWithoutAnObject(t *testing.T) {
	crowd := api.State{Objects: slices.Repeat([]api.Object{{17: 1}}, 500)}
	for _, s := range []api.State{{}, {Objects: []api.Object{}}, cloned(api.State{}), cloned(rich()), holding(at(2, 1, 1)), crowd} {
		for _, id := range slices.Concat(numbers, []int{len(s.Objects), len(s.Objects) + 1, -len(s.Objects), 499, 500, 501}) {
			if id >= 0 && id < len(s.Objects) {
				continue
			}
			for _, players := range numbers {
				if show, hide := Show(s, id, players), Hide(s, id, players); show != nil || hide != nil {
					t.Fatal(id, players, show, hide)
				}
			}
		}
	}
	for id := range crowd.Objects {
		checkChange(t, Show, crowd, id, 2, 3)
		checkChange(t, Hide, crowd, id, 1, 0)
	}
}

// P15.1: what Show and Hide answer leads from a right state to a right one, in which those players know the object, or don't, and nothing else is other.
func TestShowAndHideDone(t *testing.T) {
	was := rich()
	for id := range was.Objects {
		for players := -1; players < 5; players++ {
			knows := was.Objects[id][17]
			checkDone(t, Show(was, id, players), id, shown(knows, players))
			checkDone(t, Hide(was, id, players), id, hidden(knows, players))
		}
	}
}

// checkDone does events on the rich state, and asks that one object's FKnows alone is another one, and that they lead back.
func checkDone(t *testing.T, list []api.Event, id, to int) {
	t.Helper()
	s, want := rich(), rich()
	want.Objects[id][17] = to
	for _, e := range list {
		if err := event.Do(&s, e); err != nil {
			t.Fatal(e, err)
		}
	}
	if err := state.Check(s); err != nil || !state.Same(s, want) {
		t.Fatal(list, id, to, err)
	}
	for _, e := range list {
		if err := event.Do(&s, event.Invert(e)); err != nil || !state.Same(s, rich()) {
			t.Fatal(e, err)
		}
	}
}

// P15.2: Show gains, or is none; Hide loses, or is none.
func TestShowGains(t *testing.T) {
	for _, knows := range numbers {
		s := api.State{Objects: []api.Object{withKnows(knows)}}
		for _, players := range numbers {
			show, hide := Show(s, 0, players), Hide(s, 0, players)
			if len(show) > 0 && (!Gains(show[0]) || Loses(show[0])) || Gained(show) != (len(show) > 0) {
				t.Fatal(knows, players, show)
			}
			if len(hide) > 0 && (Gains(hide[0]) || !Loses(hide[0])) || Gained(hide) {
				t.Fatal(knows, players, hide)
			}
		}
	}
}

// gains tells, player by player, whether one knows behind a change what it didn't ahead of it.
func gains(from, to int) bool {
	was, is := knowing(from), knowing(to)
	return is[0] && !was[0] || is[1] && !was[1]
}

// P15.1: Gains and Loses, written out.
func TestGainsAndLosesByHand(t *testing.T) {
	for _, row := range []struct {
		from, to     int
		gains, loses bool
	}{
		{0, 0, false, false}, {0, 1, true, false}, {0, 2, true, false}, {0, 3, true, false},
		{1, 0, false, true}, {1, 1, false, false}, {1, 2, true, true}, {1, 3, true, false},
		{2, 0, false, true}, {2, 1, true, true}, {2, 2, false, false}, {2, 3, true, false},
		{3, 0, false, true}, {3, 1, false, true}, {3, 2, false, true}, {3, 3, false, false},
		{0, 4, false, false}, {4, 0, false, false}, {3, 7, false, false}, {7, 3, false, false}, {4, 5, true, false}, {6, 4, false, true},
		{-1, 0, false, true}, {0, -1, true, false}, {-4, 0, false, false}, {3, -1, false, false}, {-2, -3, true, true},
	} {
		e := api.Event{Kind: api.EvObject, A: 5, B: api.FKnows, C: row.from, D: row.to}
		if Gains(e) != row.gains || Loses(e) != row.loses || Gained([]api.Event{e}) != row.gains {
			t.Error(row, Gains(e), Loses(e))
		}
	}
}

// P15.1: Gains and Loses hang on the lowest two bits of C and D, of whatever object.
func TestGainsAndLoses(t *testing.T) {
	for _, from := range numbers {
		for _, to := range numbers {
			for _, other := range []int{0, 1, 17, -1, 400, math.MaxInt, math.MinInt} {
				e := api.Event{Kind: 2, A: other, B: 17, C: from, D: to, E: other}
				if Gains(e) != gains(from, to) || Loses(e) != gains(to, from) {
					t.Fatal(e, Gains(e), Loses(e))
				}
			}
		}
	}
}

// P15.1: no other event gains or loses: other kinds, other fields, numbers that are cut off to the right ones.
func TestOtherEvents(t *testing.T) {
	for _, kind := range numbers {
		for _, field := range numbers {
			if kind == 2 && field == 17 {
				continue
			}
			for _, ends := range [][2]int{{0, 3}, {3, 0}, {0, 1}, {2, 0}, {1, 2}, {17, 17}} {
				for _, a := range []int{0, 2, 17} {
					e := api.Event{Kind: kind, A: a, B: field, C: ends[0], D: ends[1], E: 17}
					if Gains(e) || Loses(e) || Gained([]api.Event{e}) {
						t.Fatal(e)
					}
				}
			}
		}
	}
}

// P15.1: Gained asks each event of a list by itself, wherever it stands; what is lost later doesn't count.
func TestGained(t *testing.T) {
	gain := api.Event{Kind: 2, A: 3, B: 17, C: 1, D: 3}
	loss := api.Event{Kind: 2, A: 3, B: 17, C: 3, D: 1}
	both := api.Event{Kind: 2, A: 3, B: 17, C: 1, D: 2}
	other := api.Event{Kind: 3, A: 0, B: 0, C: 1, D: 3}
	for _, list := range [][]api.Event{nil, {}, {loss}, {other}, {loss, other, loss}, slices.Repeat([]api.Event{loss, other}, 500)} {
		if Gained(list) {
			t.Error(list)
		}
	}
	for _, list := range [][]api.Event{{gain}, {both}, {gain, loss}, {loss, gain}, {other, gain, other}, {loss, other, both}, {gain, gain}} {
		if !Gained(list) {
			t.Error(list)
		}
	}
	for place := range 40 {
		list := slices.Repeat([]api.Event{loss, other}, 20)
		list[place] = gain
		was := slices.Clone(list)
		if !Gained(list) || !slices.Equal(list, was) {
			t.Error(place)
		}
		if Gained(list[:place]) || Gained(list[place+1:]) {
			t.Error(place)
		}
	}
}

// seen is a state as a player sees it, by the chapter's words, field by field.
func seen(s api.State, player int) api.State {
	other := s
	other.Objects = nil
	for _, o := range s.Objects {
		if !knowing(o[17])[player] {
			for field := range 18 {
				if field != 1 && field != 2 && field != 3 && field != 17 {
					o[field] = 0
				}
			}
			o[17] = hidden(o[17], 2-player)
		}
		other.Objects = append(other.Objects, o)
	}
	return other
}

// checkSees asks what a player sees of a right state, which is neither changed nor kept.
func checkSees(t *testing.T, s api.State, player int) {
	t.Helper()
	apart := cloned(s)
	got, err := Sees(apart, player)
	if err != nil || !state.Same(got, seen(s, player)) {
		t.Fatal(player, err, got, seen(s, player))
	}
	checkKept(t, apart, s)
}

// P15.1: what players see, written out.
func TestSeesByHand(t *testing.T) {
	s := holding(fighter(0), fighter(1), fighter(2), fighter(3), at(0, 9, 0), at(1, 8, 1), at(3, 7, 2))
	bare := api.Object{1: 1, 2: 1, 3: 8}
	mixed := api.Object{0: 51, 1: 1, 3: 9, 17: 2}
	for player, want := range [][]api.Object{
		{bare, fighter(1), bare, fighter(3), {}, at(1, 8, 1), {1: 1, 2: 1, 3: 3}, {1: 1, 2: 0, 3: 9}},
		{bare, bare, fighter(2), fighter(3), {}, {1: 1, 2: 1, 3: 1}, at(3, 7, 2), mixed},
	} {
		s := s
		s.Objects = append(slices.Clone(s.Objects), mixed)
		s.Lists[9] = []int{7}
		got, err := Sees(s, player)
		if err != nil || !slices.Equal(got.Objects, want) || got.Players != s.Players || got.Game != s.Game {
			t.Error(player, err, got)
		}
		for zone, list := range s.Lists {
			if !slices.Equal(got.Lists[zone], list) {
				t.Error(player, zone, got.Lists[zone])
			}
		}
	}
}

// P15.1: what both players see of states, the empty one, and one with as many objects as there may be.
func TestSees(t *testing.T) {
	full := slices.Repeat([]api.Object{fighter(0), at(0, 5, 1), at(3, 2, 2), missile(3)}, 100)
	for _, s := range []api.State{{}, state.New(), rich(), holding(full...)} {
		checkSees(t, s, 0)
		checkSees(t, s, 1)
	}
}

// P15.1: each field of an object that isn't known is 0, but for the owner, the control and the list, each by itself; of one that is known each is as it is.
func TestSeesFields(t *testing.T) {
	var asked [18]int
	for field := range asked {
		for _, n := range []int{-2, 1, 2, 3, 5, 8} {
			for zone := range 11 {
				o := at(zone, 0, 0)
				o[field] = n
				s := holding(o)
				if state.Check(s) != nil {
					continue
				}
				asked[field]++
				checkSees(t, s, 0)
				checkSees(t, s, 1)
			}
		}
	}
	if slices.Contains(asked[:], 0) {
		t.Error("a field was never asked", asked)
	}
}

// P15.1: Sees answers Check's error first, and ErrRange of another player; with an error the state is the zero value.
func TestSeesErrors(t *testing.T) {
	number, zone, form := rich(), rich(), rich()
	number.Objects[8][17] = 4
	zone.Lists[0] = nil
	form.Objects[0][4] = 1
	for _, row := range []struct {
		s   api.State
		err error
	}{
		{rich(), nil}, {api.State{}, nil}, {holding(slices.Repeat([]api.Object{at(10, 3, 1)}, 400)...), nil},
		{holding(slices.Repeat([]api.Object{at(10, 3, 1)}, 401)...), api.ErrFull}, {number, api.ErrRange}, {zone, api.ErrZone}, {form, api.ErrForm},
		{api.State{Objects: []api.Object{{17: 1}}}, api.ErrZone}, {api.State{Game: [7]int{1: 2}}, api.ErrRange}, {holding(withKnows(1)), api.ErrRange},
	} {
		for _, player := range numbers {
			want := row.err
			if want == nil && player != 0 && player != 1 {
				want = api.ErrRange
			}
			got, err := Sees(row.s, player)
			if err != want {
				t.Fatal(player, err, want)
			}
			if err != nil && !isZero(got) {
				t.Fatal(player, err, got)
			}
		}
	}
}

// P15.2: what a player sees is alike of states that differ in what it doesn't know alone.
func TestSeesHangsOnWhatIsKnown(t *testing.T) {
	rows := rand.New(rand.NewSource(15))
	for range 3000 {
		s := some(rows)
		player := rows.Intn(2)
		other := state.Copy(s)
		for id, o := range s.Objects {
			if !knowing(o[17])[player] {
				other.Objects[id] = unlike(rows, o, 2-player)
			}
		}
		if err := state.Check(other); err != nil {
			t.Fatal(err, other)
		}
		a, errA := Sees(s, player)
		b, errB := Sees(other, player)
		if errA != nil || errB != nil || !state.Same(a, b) {
			t.Fatal(player, s, other)
		}
		if !slices.Equal(Known(s, player), Known(other, player)) {
			t.Fatal(player, s, other)
		}
		checkSees(t, s, 0)
		checkSees(t, s, 1)
	}
}

// some is a right state by chance.
func some(rows *rand.Rand) api.State {
	var objects []api.Object
	for range rows.Intn(30) {
		o := at(rows.Intn(11), rows.Intn(120), rows.Intn(4))
		if o[3] >= 8 {
			o[1] = rows.Intn(2)
			o[2] = o[1]
		}
		if o[3] >= 9 || o[3] == 8 && rows.Intn(2) == 0 {
			o[2] = rows.Intn(2)
		}
		objects = append(objects, unlike(rows, o, rows.Intn(4)))
	}
	return holding(objects...)
}

// unlike is another object of the same owner in the same list, under the same control, which some of the players told may know beside those who do.
func unlike(rows *rand.Rand, o api.Object, players int) api.Object {
	other := api.Object{0: rows.Intn(120), 1: o[1], 2: o[2], 3: o[3], 14: rows.Intn(4), 15: rows.Intn(2), 17: shown(o[17], players)}
	if rows.Intn(2) == 0 {
		other[17] = hidden(o[17], players)
	}
	switch {
	case o[3] == 8:
		other[4], other[5], other[6], other[7], other[8] = rows.Intn(2), rows.Intn(2), rows.Intn(5), rows.Intn(5), rows.Intn(9)-4
		other[9], other[10], other[11], other[12], other[13] = rows.Intn(9)-4, rows.Intn(256), rows.Intn(2), rows.Intn(2), rows.Intn(2)
	case o[3] == 9:
		other[13], other[16] = rows.Intn(3), rows.Intn(4)-2
	case o[3] == 10:
		other[13] = rows.Intn(3)
	}
	return other
}

// P15.1: what Sees answers shares no memory with what was handed in, nor one list of it with another.
func TestSeesApart(t *testing.T) {
	for player := range 2 {
		apart := cloned(rich())
		got, err := Sees(apart, player)
		if err != nil {
			t.Fatal(err)
		}
		for id := range got.Objects {
			got.Objects[id] = withKnows(9)
		}
		got.Objects = append(got.Objects, withKnows(9))
		for zone := range got.Lists {
			for place := range got.Lists[zone] {
				got.Lists[zone][place] = 100 + zone
			}
			got.Lists[zone] = append(got.Lists[zone], 100+zone, 100+zone)
		}
		checkKept(t, apart, rich())
		for zone, list := range got.Lists {
			for _, n := range list {
				if n != 100+zone {
					t.Fatal(zone, list)
				}
			}
		}
		again, err := Sees(apart, player)
		if err != nil || !state.Same(again, seen(rich(), player)) {
			t.Fatal(player, err, again)
		}
	}
}

// P15.1: Known, written out.
func TestKnownByHand(t *testing.T) {
	s := rich()
	for player, want := range [][]int{
		{2, 4, 6, 9, 11, 13, 15, 17, 19, 20, 21},
		{1, 3, 4, 7, 10, 11, 14, 15, 18, 19, 21, 22},
	} {
		if got := Known(s, player); !slices.Equal(got, want) {
			t.Error(player, got)
		}
	}
}

// P15.1: Known of states that are right or not, of all numbers of an FKnows, and none of another player than the two.
func TestKnown(t *testing.T) {
	var objects []api.Object
	for _, knows := range slices.Concat(numbers, slices.Repeat(numbers, 10)) {
		objects = append(objects, withKnows(knows))
	}
	for _, s := range []api.State{{}, state.New(), rich(), {Objects: objects}, {Objects: []api.Object{{17: 3}}}} {
		for _, player := range numbers {
			var want []int
			for id, o := range s.Objects {
				if player == 0 && knowing(o[17])[0] || player == 1 && knowing(o[17])[1] {
					want = append(want, id)
				}
			}
			apart := cloned(s)
			got := Known(apart, player)
			if !slices.Equal(got, want) {
				t.Fatal(player, got, want)
			}
			checkKept(t, apart, s)
			for place := range got {
				got[place] = mark
			}
			if !slices.Equal(Known(apart, player), want) {
				t.Fatal(player, "what was answered is kept")
			}
		}
	}
}

// P15.1: Show, Hide, Knows and Zone change nothing that is handed in, and what they answer isn't kept.
func TestShowAndHideApart(t *testing.T) {
	apart := cloned(rich())
	for id := -1; id <= len(apart.Objects); id++ {
		for players := range 4 {
			for _, ask := range []change{Show, Hide} {
				got := ask(apart, id, players)
				was := slices.Clone(got)
				for place := range got {
					got[place] = api.Event{Kind: mark}
				}
				checkKept(t, apart, rich())
				if !slices.Equal(ask(apart, id, players), was) {
					t.Fatal(id, players)
				}
			}
		}
	}
}
