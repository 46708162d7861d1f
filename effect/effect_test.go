package effect

import (
	"bytes"
	"math"
	"math/rand"
	"reflect"
	"slices"
	"testing"

	"mulligan/api"
	"mulligan/wire"
)

// row is what the chapter says of one op: the ends of N and of M, the letters of whom it may be about (y you, o other, t target, s self, e each), the letters of the targets at which t is right (c creature, p player, a any, s cast, t thing), how many effects it may have within, and whether an All may have it within.
type row struct {
	op, leastN, mostN, leastM, mostM int
	whom, targets                    string
	least, most                      int
	inAll                            bool
}

// rows are the chapter's, one an op.
var rows = []row{
	{api.Nothing, 0, 99, 0, 99, "y", "", 0, 0, false},
	{api.Damage, 0, 99, 0, 99, "yoet", "cpa", 0, 0, true},
	{api.Gain, 0, 99, 0, 99, "yoet", "p", 0, 0, false},
	{api.Lose, 0, 99, 0, 99, "yoet", "p", 0, 0, false},
	{api.Draw, 0, 99, 0, 99, "yoet", "p", 0, 0, false},
	{api.Mill, 0, 99, 0, 99, "yoet", "p", 0, 0, false},
	{api.Destroy, 0, 99, 0, 99, "st", "ct", 0, 0, true},
	{api.Bounce, 0, 99, 0, 99, "st", "ct", 0, 0, true},
	{api.Banish, 0, 99, 0, 99, "st", "ct", 0, 0, true},
	{api.Counter, 0, 99, 0, 99, "t", "s", 0, 0, false},
	{api.Pump, -99, 99, -99, 99, "st", "ct", 0, 0, true},
	{api.Grow, 0, 99, 0, 99, "st", "ct", 0, 0, true},
	{api.Tap, 0, 99, 0, 99, "st", "ct", 0, 0, true},
	{api.Untap, 0, 99, 0, 99, "st", "ct", 0, 0, true},
	{api.Make, 0, 99, 112, 119, "yoet", "p", 0, 0, false},
	{api.AddMana, 0, 99, 0, 5, "yoet", "p", 0, 0, false},
	{api.Reveal, 0, 99, 0, 99, "yoet", "p", 0, 0, false},
	{api.Look, 0, 99, 0, 99, "yoet", "p", 0, 0, false},
	{api.Shuffle, 0, 99, 0, 99, "yoet", "p", 0, 0, false},
	{api.Discard, 0, 99, 0, 99, "yoet", "p", 0, 0, false},
	{api.All, 0, 3, 0, 99, "y", "", 1, 1, false},
	{api.Seq, 0, 99, 0, 99, "y", "", 1, 8, false},
	{api.If, 0, 2, 0, 99, "y", "", 1, 2, false},
	{api.Grant, 0, 255, 0, 99, "st", "ct", 0, 0, true},
	{api.Become, -99, 99, -99, 99, "st", "ct", 0, 0, true},
	{api.Strip, 0, 255, 0, 99, "st", "ct", 0, 0, true},
}

// far are numbers outside of each span, some of which are right if they are cut off or wrapped around.
var far = []int{
	math.MinInt, math.MinInt + 1, -1 << 32, -1 << 31, -256, -100, -26, -6, -5, -1, 26, 27, 64, 65, 100, 256, 1 << 31, 1 << 32, 1<<32 + 1, math.MaxInt - 1, math.MaxInt,
}

// edges are numbers about the ends of all spans of N and M.
var edges = append([]int{
	-99, -98, 0, 1, 2, 3, 4, 5, 6, 7, 98, 99, 111, 112, 113, 118, 119, 120, 254, 255,
}, far...)

// letter is a place's letter among letters; a blank, if there is none.
func letter(letters string, place int) string {
	if place < 0 || place >= len(letters) {
		return " "
	}
	return letters[place : place+1]
}

// among tells whether a letter is among others.
func among(letter, letters string) bool { return bytes.Contains([]byte(letters), []byte(letter)) }

// own is the first error that an effect has by itself, so deep, by the rows.
func own(e api.Effect, target, level int) error {
	if e.Op < 0 || e.Op > 25 {
		return api.ErrKind
	}
	r := rows[e.Op]
	switch {
	case level >= 9:
		return api.ErrLong
	case e.N < r.leastN || e.N > r.mostN || e.M < r.leastM || e.M > r.mostM || e.Who < 0 || e.Who > 4:
		return api.ErrRange
	case !among(letter("yotse", e.Who), r.whom), e.Who == api.Target && !among(letter(" cpast", target), r.targets):
		return api.ErrTarget
	case len(e.Subs) < r.least || len(e.Subs) > r.most:
		return api.ErrForm
	case e.Op == api.All && (e.Subs[0].Op < 0 || e.Subs[0].Op > 25 || !rows[e.Subs[0].Op].inAll):
		return api.ErrForm
	}
	return nil
}

// faults are all errors of an effect and of those within it, in the chapter's order.
func faults(e api.Effect, target, level int) []error {
	var list []error
	if err := own(e, target, level); err != nil {
		list = append(list, err)
	}
	if e.Op == api.All {
		target = api.Creature
	}
	for _, sub := range e.Subs {
		list = append(list, faults(sub, target, level+1)...)
		if e.Op == api.All && sub.Who != api.Target {
			list = append(list, api.ErrTarget)
		}
	}
	return list
}

// expected is what Check is to answer.
func expected(e api.Effect, target int) error {
	if target < 0 || target > 5 {
		return api.ErrKind
	}
	if list := faults(e, target, 1); len(list) > 0 {
		return list[0]
	}
	return nil
}

// checkCheck holds a Check against what it is to answer.
func checkCheck(t *testing.T, e api.Effect, target int) {
	t.Helper()
	if got, want := Check(e, target), expected(e, target); got != want {
		t.Errorf("Check(%v, %d) = %v, not %v", e, target, got, want)
	}
}

// seq, all and choice are effects with others within.
func seq(subs ...api.Effect) api.Effect    { return api.Effect{Op: api.Seq, Subs: subs} }
func choice(subs ...api.Effect) api.Effect { return api.Effect{Op: api.If, Subs: subs} }
func all(subs ...api.Effect) api.Effect    { return api.Effect{Op: api.All, Subs: subs} }

// gain and hit are effects that are right for each target, and for those with creatures alone.
var gain = api.Effect{Op: api.Gain, N: 1}
var hit = api.Effect{Op: api.Destroy, Who: api.Target}

// chain is an effect in so many others, one in the other.
func chain(outer int, inner api.Effect) api.Effect {
	for range outer {
		inner = seq(inner)
	}
	return inner
}

// filled is an effect with as many right ones within as it must have.
func filled(e api.Effect) api.Effect {
	switch e.Op {
	case api.Seq, api.If:
		e.Subs = []api.Effect{gain}
	case api.All:
		e.Subs = []api.Effect{hit}
	}
	return e
}

// right is a right effect of a row for some target, about a letter's.
func right(r row, who int) api.Effect {
	return filled(api.Effect{Op: r.op, N: max(r.leastN, 0), M: max(r.leastM, 0), Who: who})
}

// P6.1: each op, about whomever, for each target, with right numbers; another op, another Who, another target.
func TestCheckWhom(t *testing.T) {
	whoms := append([]int{0, 1, 2, 3, 4}, far...)
	targets := append([]int{0, 1, 2, 3, 4, 5}, far...)
	for _, r := range rows {
		for _, who := range whoms {
			for _, target := range targets {
				checkCheck(t, right(r, who), target)
			}
		}
	}
	for _, op := range far {
		for _, target := range targets {
			checkCheck(t, api.Effect{Op: op}, target)
			if op < 0 || op > 25 {
				if err := Check(api.Effect{Op: op}, target); err != api.ErrKind {
					t.Error(op, target, err)
				}
			}
		}
	}
}

// P6.1: the numbers N and M of each op about all ends.
func TestCheckNumbers(t *testing.T) {
	for _, r := range rows {
		who := map[string]int{"y": api.You, "s": api.Self, "t": api.Target}[r.whom[:1]]
		target := api.NoTarget
		if r.op == api.Counter {
			target = api.Cast
		}
		for _, n := range edges {
			for _, m := range edges {
				e := filled(api.Effect{Op: r.op, N: n, M: m, Who: who})
				checkCheck(t, e, target)
				inside := n >= r.leastN && n <= r.mostN && m >= r.leastM && m <= r.mostM
				if err := Check(e, target); (err == nil) != inside || err != nil && err != api.ErrRange {
					t.Errorf("Check(%v, %d) = %v", e, target, err)
				}
			}
		}
	}
}

// P6.1: which one is told of an effect with several errors: op, numbers, whom, how many within, in all ways together.
func TestCheckFirst(t *testing.T) {
	for op := -1; op <= 26; op++ {
		for _, n := range []int{-100, -1, 0, 3, 4, 256} {
			for _, m := range []int{-100, 0, 6, 112, 120} {
				for who := -1; who <= 5; who++ {
					for target := -1; target <= 6; target++ {
						for _, subs := range [][]api.Effect{nil, {gain}, {hit}, {hit, gain}, {{Op: 26}}} {
							checkCheck(t, api.Effect{Op: op, N: n, M: m, Who: who, Subs: subs}, target)
						}
					}
				}
			}
		}
	}
}

// P6.1: how many effects there may be within each op, up to far too many.
func TestCheckHowMany(t *testing.T) {
	for _, r := range rows {
		for count := range 12 {
			e := right(r, map[string]int{"y": api.You, "s": api.Self, "t": api.Target}[r.whom[:1]])
			e.Subs = nil
			for range count {
				if r.op == api.All {
					e.Subs = append(e.Subs, hit)
				} else {
					e.Subs = append(e.Subs, gain)
				}
			}
			target := api.Creature
			if r.op == api.Counter {
				target = api.Cast
			}
			checkCheck(t, e, target)
			fits := count >= r.least && count <= r.most
			if err := Check(e, target); (err == nil) != fits || err != nil && err != api.ErrForm {
				t.Errorf("%d within op %d: %v", count, r.op, err)
			}
		}
	}
	for _, count := range []int{9, 255, 256, 257, 264, 65536 + 1, 65536 + 8} {
		for _, op := range []int{api.Seq, api.If, api.All, api.Gain} {
			if err := Check(api.Effect{Op: op, Subs: slices.Repeat([]api.Effect{hit}, count)}, api.Creature); err != api.ErrForm {
				t.Error(op, count, err)
			}
		}
	}
	// How many there are is asked of an effect that is within, too, and ahead of what is wrong within it.
	for _, e := range []api.Effect{seq(gain, seq()), choice(gain, choice()), seq(all()), seq(seq(), api.Effect{Op: 26}), seq(choice(gain, gain, api.Effect{Op: 26}))} {
		if err := Check(e, api.NoTarget); err != api.ErrForm {
			t.Error(e, err)
		}
	}
}

// P6.1: what an All may have within: its ops, right for a creature, about it; whatever the ability aims at.
func TestCheckAll(t *testing.T) {
	for op := -1; op <= 26; op++ {
		for who := -1; who <= 5; who++ {
			for _, n := range []int{-100, -99, -1, 0, 99, 100, 255, 256} {
				for target := range api.Targets {
					e := all(api.Effect{Op: op, N: n, Who: who})
					checkCheck(t, e, target)
					checkCheck(t, seq(gain, e), target)
				}
			}
		}
	}
	for _, c := range []struct {
		within api.Effect
		want   error
	}{
		{hit, nil},
		{api.Effect{Op: api.Damage, N: 2, Who: api.Target}, nil},
		{api.Effect{Op: api.Damage, N: 2, Who: api.Each}, api.ErrTarget}, // right, but not about the creature
		{api.Effect{Op: api.Pump, N: -2, M: -2, Who: api.Self}, api.ErrTarget},
		{api.Effect{Op: api.Tap, Who: api.You}, api.ErrTarget},
		{api.Effect{Op: api.Damage, N: 100, Who: api.Each}, api.ErrRange}, // its own errors are ahead
		{api.Effect{Op: api.Damage, Who: 5}, api.ErrRange},
		{api.Effect{Op: api.Damage, Who: api.Each, Subs: []api.Effect{hit}}, api.ErrForm},
		{api.Effect{Op: api.Tap, Who: api.Self, Subs: []api.Effect{hit}}, api.ErrForm},
		{gain, api.ErrForm},
		{all(hit), api.ErrForm},
		{seq(hit), api.ErrForm},
		{choice(hit), api.ErrForm},
		{api.Effect{Op: api.Counter, Who: api.Target}, api.ErrForm},
		{api.Effect{Op: api.Gain, N: 100, Who: 5}, api.ErrForm}, // the All's own error is ahead of its
		{api.Effect{Op: 26}, api.ErrForm},
		{api.Effect{Op: -1}, api.ErrForm},
		{api.Effect{Op: 64 + api.Damage, Who: api.Target}, api.ErrForm},
	} {
		for target := range api.Targets {
			if err := Check(all(c.within), target); err != c.want {
				t.Errorf("Check of All of %v, %d: %v, not %v", c.within, target, err, c.want)
			}
		}
	}
	// Behind an All the ability's own target counts again.
	if err := Check(seq(all(hit), hit), api.NoTarget); err != api.ErrTarget {
		t.Error(err)
	}
	if err := Check(seq(all(hit), api.Effect{Op: api.Lose, Who: api.Target}), api.Player); err != nil {
		t.Error(err)
	}
}

// P6.1: a target counts for each effect within Seq and If, at whatever depth.
func TestCheckTargetWithin(t *testing.T) {
	for _, r := range rows {
		for who := range 5 {
			for target := range api.Targets {
				inner := right(r, who)
				for _, e := range []api.Effect{seq(inner), seq(gain, inner), choice(inner), choice(gain, inner), chain(4, inner), seq(choice(gain, seq(gain, inner)), gain)} {
					checkCheck(t, e, target)
					if got, want := Check(e, target), Check(inner, target); got != want {
						t.Errorf("Check(%v, %d) = %v, alone %v", e, target, got, want)
					}
				}
			}
		}
	}
}

// P6.1: the first error is told: an effect's ahead of those within it, one of the first ahead of the second's, in whatever order of their numbers.
func TestCheckOrder(t *testing.T) {
	wrongs := []api.Effect{{Op: 26}, {Op: api.Gain, N: 100}, {Op: api.Gain, Who: api.Self}, {Op: api.Seq}, chain(8, gain), gain}
	for _, a := range wrongs {
		for _, b := range wrongs {
			for _, e := range []api.Effect{seq(a, b), choice(a, b), seq(seq(gain, a), b), seq(gain, choice(seq(a)), seq(b))} {
				checkCheck(t, e, api.NoTarget)
			}
			for _, outer := range wrongs {
				outer.Subs = append(slices.Clone(outer.Subs), a, b)
				checkCheck(t, outer, api.NoTarget)
				checkCheck(t, seq(outer), api.NoTarget)
			}
		}
	}
	if err := Check(seq(seq(gain, api.Effect{Op: api.Gain, N: 100}), api.Effect{Op: 26}), 0); err != api.ErrRange {
		t.Error("the second one's error is told ahead of that within the first one:", err)
	}
	if err := Check(api.Effect{Op: api.Seq, N: 100, Subs: []api.Effect{{Op: 26}}}, 0); err != api.ErrRange {
		t.Error("what is within is told ahead of the whole:", err)
	}
	if err := Check(api.Effect{Op: 26, N: 100}, 6); err != api.ErrKind {
		t.Error(err)
	}
}

// P6.1: 8 deep is right, 9 aren't; the ninth's op is asked ahead of that, its numbers behind, and all that stands higher ahead.
func TestCheckDeep(t *testing.T) {
	for _, depth := range []int{1, 2, 3, 4, 5, 6, 7, 8, 9, 10, 100, 1000} {
		var want error
		if depth > 8 {
			want = api.ErrLong
		}
		if err := Check(chain(depth-1, gain), api.NoTarget); err != want {
			t.Errorf("%d deep: %v", depth, err)
		}
		if err := Check(seq(gain, chain(depth-2, gain)), api.NoTarget); depth > 1 && err != want {
			t.Errorf("%d deep, behind another: %v", depth, err)
		}
	}
	for _, c := range []struct {
		e    api.Effect
		want error
	}{
		{chain(8, api.Effect{Op: 26}), api.ErrKind},
		{chain(8, api.Effect{Op: -1, N: -1}), api.ErrKind},
		{chain(8, api.Effect{Op: api.Gain, N: 100}), api.ErrLong},
		{chain(8, api.Effect{Op: api.Gain, Who: api.Self}), api.ErrLong},
		{chain(8, api.Effect{Op: api.Seq}), api.ErrLong},
		{chain(9, api.Effect{Op: 26}), api.ErrLong},
		{chain(7, api.Effect{Op: api.Gain, N: 100}), api.ErrRange},
		{chain(7, api.Effect{Op: api.Seq}), api.ErrForm},
		{chain(7, api.Effect{Op: api.Seq, N: 100, Subs: []api.Effect{gain}}), api.ErrRange},
		{chain(7, seq(gain, api.Effect{Op: 26})), api.ErrLong},
		{chain(6, all(hit)), nil},
		{chain(7, all(hit)), api.ErrLong},
		{chain(7, all(gain)), api.ErrForm},
		{chain(7, all(api.Effect{Op: api.Tap, Who: api.Self})), api.ErrLong},
		{seq(chain(8, gain), api.Effect{Op: 26}), api.ErrLong},
		{seq(api.Effect{Op: 26}, chain(8, gain)), api.ErrKind},
		{api.Effect{Op: api.Seq, N: -1, Subs: []api.Effect{chain(1000, gain)}}, api.ErrRange},
		{api.Effect{Op: api.Gain, Subs: []api.Effect{chain(1000, gain)}}, api.ErrForm},
		{choice(chain(6, gain), chain(6, gain)), nil},
		{choice(chain(6, gain), chain(7, gain)), api.ErrLong},
	} {
		if err := Check(c.e, api.NoTarget); err != c.want {
			t.Errorf("Check(%v) = %v, not %v", c.e, err, c.want)
		}
		checkCheck(t, c.e, api.NoTarget)
	}
}

// P6.1: the chapter's example, and some cards' effects.
func TestCheckByHand(t *testing.T) {
	bolt := api.Effect{Op: api.Damage, N: 3, Who: api.Target}
	for _, c := range []struct {
		e      api.Effect
		target int
		want   error
	}{
		{bolt, api.Any, nil},
		{bolt, api.NoTarget, api.ErrTarget},
		{bolt, api.Cast, api.ErrTarget},
		{bolt, api.Thing, api.ErrTarget},
		{bolt, api.Targets, api.ErrKind},
		{bolt, -1, api.ErrKind},
		{api.Effect{}, api.NoTarget, nil},
		{api.Effect{Op: api.Counter, Who: api.Target}, api.Cast, nil},
		{api.Effect{Op: api.Counter, Who: api.Target}, api.Any, api.ErrTarget},
		{api.Effect{Op: api.Pump, N: -2, M: -2, Who: api.Target}, api.Creature, nil},
		{api.Effect{Op: api.Lose, N: -1}, api.NoTarget, api.ErrRange},
		{api.Effect{Op: api.Make, N: 2, M: 116}, api.NoTarget, nil},
		{api.Effect{Op: api.Make, N: 2}, api.NoTarget, api.ErrRange},
		{api.Effect{Op: api.Grant, N: api.Words, Who: api.Self}, api.NoTarget, nil},
		{api.Effect{Op: api.AddMana, N: 3, M: 6}, api.NoTarget, api.ErrRange},
		{all(bolt), api.NoTarget, nil},
		{seq(bolt, api.Effect{Op: api.Draw, N: 1}), api.Any, nil},
		{api.Effect{Op: api.If, M: 10, Subs: []api.Effect{{Op: api.Gain, N: 8}, {Op: api.Draw, N: 1}}}, api.NoTarget, nil},
	} {
		if err := Check(c.e, c.target); err != c.want {
			t.Errorf("Check(%v, %d) = %v, not %v", c.e, c.target, err, c.want)
		}
	}
}

// grown is an effect by draws, with some ops and numbers that no right one has, or only such as may be right.
func grown(r *rand.Rand, levels int, wild bool) api.Effect {
	e := api.Effect{Op: r.Intn(26), Who: r.Intn(5)}
	row := rows[e.Op]
	e.N, e.M = row.leastN+r.Intn(row.mostN-row.leastN+1), row.leastM+r.Intn(row.mostM-row.leastM+1)
	count := row.least + r.Intn(row.most-row.least+1)
	if levels > 1 && r.Intn(2) == 0 {
		e.Op, e.N, e.M, e.Who, count = api.Seq, r.Intn(100), r.Intn(100), api.You, 1+r.Intn(8)
	}
	if wild && r.Intn(4) == 0 {
		numbers := []*int{&e.Op, &e.N, &e.M, &e.Who}
		*numbers[r.Intn(4)] = edges[r.Intn(len(edges))]
	}
	if wild && r.Intn(4) == 0 {
		count = r.Intn(12)
	}
	if levels == 1 {
		return e
	}
	for range count {
		e.Subs = append(e.Subs, grown(r, levels-1, wild))
	}
	return e
}

// P6.1: effects by draws, right ones and wrong ones, for each target.
func TestCheckGrown(t *testing.T) {
	r := rand.New(rand.NewSource(6))
	told := map[error]int{}
	for i := range 20000 {
		e := grown(r, 1+r.Intn(4), i%2 == 0)
		for target := range api.Targets {
			checkCheck(t, e, target)
			told[Check(e, target)]++
		}
	}
	for _, err := range []error{nil, api.ErrKind, api.ErrRange, api.ErrTarget, api.ErrForm} {
		if told[err] < 100 {
			t.Error("too few tries end so:", err, told[err])
		}
	}
}

// P6.1: how many there are, how deep, and which ops there are, of effects by hand.
func TestSizeDepthHas(t *testing.T) {
	odd := api.Effect{Op: -7, Subs: []api.Effect{{Op: math.MaxInt}, {Op: math.MinInt, Subs: []api.Effect{{Op: 99}}}, gain}}
	for _, c := range []struct {
		e           api.Effect
		size, depth int
		ops         []int
	}{
		{api.Effect{}, 1, 1, []int{0}},
		{gain, 1, 1, []int{api.Gain}},
		{api.Effect{Op: api.Seq, Subs: []api.Effect{}}, 1, 1, []int{api.Seq}},
		{seq(gain), 2, 2, []int{api.Seq, api.Gain}},
		{seq(gain, hit, gain), 4, 2, []int{api.Seq, api.Gain, api.Destroy}},
		{seq(gain, choice(hit, all(gain)), gain), 7, 4, []int{api.Seq, api.Gain, api.If, api.Destroy, api.All}},
		{seq(choice(all(gain)), hit), 5, 4, []int{api.Seq, api.If, api.All, api.Gain, api.Destroy}},
		{seq(hit, choice(all(gain))), 5, 4, []int{api.Seq, api.If, api.All, api.Gain, api.Destroy}},
		{odd, 5, 3, []int{-7, math.MaxInt, math.MinInt, 99, api.Gain}},
		{chain(999, gain), 1000, 1000, []int{api.Seq, api.Gain}},
		{chain(500, choice(gain, chain(100, hit), chain(400, gain))), 500 + 1 + 1 + 101 + 401, 500 + 1 + 401, []int{api.Seq, api.If, api.Gain, api.Destroy}},
		{seq(slices.Repeat([]api.Effect{gain}, 5000)...), 5001, 2, []int{api.Seq, api.Gain}},
	} {
		if Size(c.e) != c.size || Depth(c.e) != c.depth {
			t.Errorf("%d effects, %d deep, not %d and %d", Size(c.e), Depth(c.e), c.size, c.depth)
		}
		for _, op := range append([]int{-7, -1, 99, 27, 26, 64, 65}, append(edges, c.ops...)...) {
			if Has(c.e, op) != slices.Contains(c.ops, op) {
				t.Errorf("op %d in an effect of %d: %v", op, c.size, Has(c.e, op))
			}
		}
		for op := range 26 {
			if Has(c.e, op) != slices.Contains(c.ops, op) {
				t.Errorf("op %d in an effect of %d: %v", op, c.size, Has(c.e, op))
			}
		}
	}
}

// walk hands over all effects of one, with how deep they stand.
func walk(e api.Effect, level int, visit func(e api.Effect, level int)) {
	visit(e, level)
	for _, sub := range e.Subs {
		walk(sub, level+1, visit)
	}
}

// reckoned is an effect's bytes by the chapter's words.
func reckoned(e api.Effect) []byte {
	var out []byte
	walk(e, 1, func(e api.Effect, _ int) {
		for _, n := range []int{e.Op, e.N, e.M, e.Who, len(e.Subs)} {
			out = wire.Put(out, n)
		}
	})
	return out
}

// P6.1: the same of effects by draws, and their bytes, whatever they are.
func TestGrown(t *testing.T) {
	r := rand.New(rand.NewSource(66))
	for i := range 3000 {
		e := grown(r, 1+r.Intn(5), i%2 == 0)
		size, depth, ops := 0, 0, map[int]bool{}
		walk(e, 1, func(e api.Effect, level int) {
			size++
			depth = max(depth, level)
			ops[e.Op] = true
		})
		if Size(e) != size || Depth(e) != depth {
			t.Fatalf("%v: %d effects, %d deep, not %d and %d", e, Size(e), Depth(e), size, depth)
		}
		for op := -1; op <= 27; op++ {
			if Has(e, op) != ops[op] {
				t.Fatalf("op %d in %v: %v", op, e, !ops[op])
			}
		}
		if !bytes.Equal(Bytes(e), reckoned(e)) {
			t.Fatalf("Bytes(%v) = %v", e, Bytes(e))
		}
	}
}

// P6.1: bytes that the chapter's sentence tells, written out, of right and other effects.
func TestBytesByHand(t *testing.T) {
	for _, c := range []struct {
		e    api.Effect
		want []byte
	}{
		{api.Effect{}, []byte{0, 0, 0, 0, 0}},
		{api.Effect{Op: 1, N: 2, M: 3, Who: 4}, []byte{2, 4, 6, 8, 0}},
		{api.Effect{Op: -1, N: -2, M: 300, Who: -64}, []byte{1, 3, 216, 4, 127, 0}},
		{seq(gain), []byte{42, 0, 0, 0, 2, 4, 2, 0, 0, 0}},
		{seq(gain, choice(hit), gain), []byte{42, 0, 0, 0, 6, 4, 2, 0, 0, 0, 44, 0, 0, 0, 2, 12, 0, 0, 4, 0, 4, 2, 0, 0, 0}},
		{api.Effect{Op: 0, Subs: []api.Effect{}}, []byte{0, 0, 0, 0, 0}},
		{api.Effect{Op: 0, Subs: make([]api.Effect, 9)}, append([]byte{0, 0, 0, 0, 18}, make([]byte, 45)...)},
		{api.Effect{Op: 0, Subs: make([]api.Effect, 64)}, append([]byte{0, 0, 0, 0, 128, 1}, make([]byte, 320)...)},
	} {
		if got := Bytes(c.e); !bytes.Equal(got, c.want) {
			t.Errorf("Bytes(%v) = %v, not %v", c.e, got, c.want)
		}
	}
	for _, n := range []int{math.MinInt, math.MaxInt} {
		e := api.Effect{Op: n, N: n, M: n, Who: n}
		one := wire.Put(nil, n)
		if got := Bytes(e); !bytes.Equal(got, append(bytes.Repeat(one, 4), 0)) {
			t.Error(n, got)
		}
		checkTaken(t, e, Bytes(e), nil)
	}
	if deep := chain(999, gain); !bytes.Equal(Bytes(deep), append(bytes.Repeat([]byte{42, 0, 0, 0, 2}, 999), 4, 2, 0, 0, 0)) {
		t.Error("1000 deep")
	}
}

// equal tells whether two effects are the same, nil lists and empty ones too.
func equal(a, b api.Effect) bool {
	if len(a.Subs) != len(b.Subs) || a.Op != b.Op || a.N != b.N || a.M != b.M || a.Who != b.Who {
		return false
	}
	for i := range a.Subs {
		if !equal(a.Subs[i], b.Subs[i]) {
			return false
		}
	}
	return true
}

// checkTaken looks whether an effect is taken from bytes, with what stands behind.
func checkTaken(t *testing.T, e api.Effect, b, behind []byte) {
	t.Helper()
	got, rest, err := Take(append(slices.Clone(b), behind...))
	if !equal(got, e) || !bytes.Equal(rest, behind) || err != nil {
		t.Errorf("Take of %v's bytes and %v = %v %v %v", e, behind, got, rest, err)
	}
}

// checkRefused looks whether an error is answered, and nothing beside it.
func checkRefused(t *testing.T, b []byte, want error) {
	t.Helper()
	if e, rest, err := Take(b); !reflect.ValueOf(e).IsZero() || rest != nil || err != want {
		t.Errorf("Take(%v) = %v %v %v, not %v", b, e, rest, err, want)
	}
}

// takeReckoned is what Take is to answer, read number by number with the rest each time.
func takeReckoned(b []byte, level int) (e api.Effect, rest []byte, err error) {
	if level == 9 {
		return e, nil, api.ErrLong
	}
	var count int
	for _, to := range []*int{&e.Op, &e.N, &e.M, &e.Who, &count} {
		if *to, b, err = wire.Take(b); err != nil {
			return e, nil, err
		}
	}
	if count >= 9 {
		return e, nil, api.ErrMany
	}
	if count <= -1 {
		return e, nil, api.ErrRange
	}
	e.Subs = make([]api.Effect, count)
	for i := range e.Subs {
		if e.Subs[i], b, err = takeReckoned(b, level+1); err != nil {
			return e, nil, err
		}
	}
	return e, b, nil
}

// checkTake holds a Take against what it is to answer.
func checkTake(t *testing.T, b []byte) {
	t.Helper()
	was := slices.Clone(b)
	e, rest, err := takeReckoned(was, 1)
	if err != nil {
		checkRefused(t, b, err)
	} else {
		checkTaken(t, e, was[:len(was)-len(rest)], rest)
	}
	if !bytes.Equal(b, was) {
		t.Errorf("Take changed %v to %v", was, b)
	}
}

// P6.1: each of the five numbers may be missing, or wrong, and layer 2's error is told of the first one.
func TestTakeNumbers(t *testing.T) {
	tooLong, zeroLast := bytes.Repeat([]byte{255}, 10), []byte{128, 0}
	for place := range 5 {
		for _, ahead := range [][]byte{nil, Bytes(seq(gain))[:5], {42, 0, 0, 0, 4, 4, 2, 0, 0, 0}} {
			b := append(slices.Clone(ahead), make([]byte, place)...)
			checkRefused(t, b, api.ErrEnd)
			checkRefused(t, append(slices.Clone(b), 128), api.ErrEnd)
			checkRefused(t, append(slices.Clone(b), bytes.Repeat([]byte{255}, 9)...), api.ErrEnd)
			for _, wrong := range [][]byte{tooLong, zeroLast} {
				checkRefused(t, append(slices.Clone(b), wrong...), api.ErrForm)
				checkRefused(t, append(append(slices.Clone(b), wrong...), make([]byte, 20)...), api.ErrForm)
			}
		}
	}
	// A wrong number is told ahead of one that is missing behind it, and of how many there are.
	checkRefused(t, []byte{0, 128, 0, 0}, api.ErrForm)
	checkRefused(t, []byte{0, 0, 0, 128, 0, 18}, api.ErrForm)
	checkRefused(t, append([]byte{0, 0, 0}, 128), api.ErrEnd)
	// Ten bytes of one number are right, if the last one is 1, at each place.
	least := append(bytes.Repeat([]byte{255}, 9), 1)
	for place := range 4 {
		b := append(append(make([]byte, place), least...), make([]byte, 4-place)...)
		var e api.Effect
		*[]*int{&e.Op, &e.N, &e.M, &e.Who}[place] = math.MinInt
		checkTaken(t, e, b, nil)
		checkTaken(t, e, b, []byte{255, 255})
	}
}

// P6.1: how many within: none to 8, ErrMany above, ErrRange below 0, at each depth, ahead of what follows.
func TestTakeHowMany(t *testing.T) {
	for depth := 1; depth <= 8; depth++ {
		ahead := bytes.Repeat([]byte{42, 0, 0, 0, 2}, depth-1)
		for _, behind := range [][]byte{nil, {128, 0}, make([]byte, 100)} {
			for _, count := range []int{9, 10, 100, 1 << 32, 1<<32 + 1, 1 << 62, math.MaxInt} {
				b := append(wire.Put(append(slices.Clone(ahead), 0, 0, 0, 0), count), behind...)
				checkRefused(t, b, api.ErrMany)
			}
			for _, count := range []int{-1, -2, -8, -9, -1 << 32, math.MinInt} {
				b := append(wire.Put(append(slices.Clone(ahead), 0, 0, 0, 0), count), behind...)
				checkRefused(t, b, api.ErrRange)
			}
		}
	}
	for count := range 12 {
		e := api.Effect{Op: api.Gain, Subs: slices.Repeat([]api.Effect{hit}, count)}
		if count > 8 {
			checkRefused(t, Bytes(e), api.ErrMany)
			checkRefused(t, Bytes(seq(gain, e)), api.ErrMany)
			continue
		}
		checkTaken(t, e, Bytes(e), []byte{1, 2, 3})
		checkTaken(t, seq(gain, e), Bytes(seq(gain, e)), nil)
		if count > 0 {
			checkRefused(t, Bytes(e)[:5*count], api.ErrEnd)
		}
	}
}

// P6.1: 8 deep is taken, 9 aren't, which is asked ahead of the ninth's numbers, and behind all that stands ahead of it.
func TestTakeDeep(t *testing.T) {
	for depth := 1; depth <= 12; depth++ {
		e := chain(depth-1, gain)
		if depth <= 8 {
			checkTaken(t, e, Bytes(e), nil)
			checkTaken(t, e, Bytes(e), []byte{255})
		} else {
			checkRefused(t, Bytes(e), api.ErrLong)
		}
	}
	checkRefused(t, Bytes(chain(999, gain)), api.ErrLong)
	outer := bytes.Repeat([]byte{42, 0, 0, 0, 2}, 8)
	checkRefused(t, outer, api.ErrLong)
	checkRefused(t, append(slices.Clone(outer), 128, 0), api.ErrLong)
	checkRefused(t, append(slices.Clone(outer), 0, 0, 0, 0, 18), api.ErrLong)
	checkRefused(t, outer[:39], api.ErrEnd)
	checkRefused(t, append(slices.Clone(outer[:39]), 18), api.ErrMany)
	checkRefused(t, append(slices.Clone(outer[:39]), 1), api.ErrRange)
	// Two within the eighth are as deep as one; what stands ahead of them is told first.
	checkRefused(t, append(slices.Clone(outer[:39]), 4), api.ErrLong)
	checkRefused(t, append([]byte{0, 0, 0, 0, 4, 0, 128, 0}, outer...), api.ErrForm)
	checkRefused(t, append([]byte{0, 0, 0, 0, 4, 0, 0, 0, 0, 0}, outer...), api.ErrLong)
	// What was 8 deep leaves the next one its own depth.
	e := seq(chain(6, gain), chain(6, hit), gain, chain(6, seq(gain, gain, hit)).Subs[0])
	checkTaken(t, e, Bytes(e), []byte{0})
}

// P6.1: Take at all short bytes of some sorts, behind beginnings that lead to some depth, and at bytes cut off or changed somewhere.
func TestTakeAll(t *testing.T) {
	sort := []byte{0, 1, 2, 16, 18, 127, 128, 255}
	var grow func(b []byte, more int)
	grow = func(b []byte, more int) {
		checkTake(t, b)
		if more == 0 {
			return
		}
		for _, c := range sort {
			grow(append(slices.Clone(b), c), more-1)
		}
	}
	grow(nil, 6)
	for _, ahead := range [][]byte{{0, 0, 0, 0, 2, 0}, {2, 3, 4, 5, 16, 7}, bytes.Repeat([]byte{42, 0, 0, 0, 2}, 7), bytes.Repeat([]byte{42, 0, 0, 0, 4}, 7), make([]byte, 4)} {
		grow(ahead, 4)
	}
	r := rand.New(rand.NewSource(666))
	for range 2000 {
		b := Bytes(grown(r, 1+r.Intn(4), true))
		checkTake(t, b)
		if len(b) > 400 {
			continue
		}
		for size := range b {
			checkTake(t, b[:size])
		}
		for range 5 {
			changed := slices.Clone(b)
			changed[r.Intn(len(b))] = byte(r.Intn(256))
			checkTake(t, changed)
		}
	}
}

// P6.1: many bytes behind an effect, and an effect of very many, are taken in a time that grows with them alone.
func TestTakeMuch(t *testing.T) {
	behind := bytes.Repeat([]byte{128, 7, 0}, 1<<20)
	checkTaken(t, seq(gain, hit), Bytes(seq(gain, hit)), behind)
	full := gain
	for range 6 {
		full = seq(slices.Repeat([]api.Effect{full}, 8)...)
	}
	b := Bytes(full)
	if Size(full) != 299593 || len(b) != 5*299593 || Check(full, api.NoTarget) != nil {
		t.Error(Size(full), len(b), Check(full, api.NoTarget))
	}
	checkTaken(t, full, b, behind)
	checkRefused(t, b[:len(b)-1], api.ErrEnd)
}

// P6.1: Same, of effects that differ in one number somewhere, in how many are within, in their order, in their depth.
func TestSame(t *testing.T) {
	r := rand.New(rand.NewSource(6666))
	var list []api.Effect
	for _, e := range []api.Effect{{}, gain, hit, seq(), seq(gain), seq(gain, hit), seq(hit, gain), seq(gain, gain), seq(gain, hit, gain), seq(seq(gain)), choice(gain), choice(gain, hit), seq(seq(gain), hit), seq(seq(gain, hit)), {Op: 1}, {N: 1}, {M: 1}, {Who: 1}, {N: 1 << 32}, {N: 1 << 8}} {
		list = append(list, e)
		for range 5 {
			list = append(list, altered(r, e))
		}
	}
	for range 40 {
		list = append(list, grown(r, 3, true))
	}
	for _, a := range list {
		for _, b := range list {
			if Same(a, b) != equal(a, b) || Same(b, a) != equal(a, b) {
				t.Errorf("Same(%v, %v) = %v", a, b, Same(a, b))
			}
			if Same(chain(3, a), chain(3, b)) != equal(a, b) || Same(seq(gain, a), seq(gain, b)) != equal(a, b) {
				t.Errorf("%v and %v within others", a, b)
			}
		}
	}
	if !Same(api.Effect{Subs: nil}, api.Effect{Subs: []api.Effect{}}) || !Same(seq(api.Effect{Subs: []api.Effect{}}), seq(api.Effect{})) {
		t.Error("an empty list isn't the same as nil")
	}
	if !Same(chain(999, gain), chain(999, gain)) || Same(chain(999, gain), chain(999, hit)) || Same(chain(999, gain), chain(998, gain)) {
		t.Error("1000 deep")
	}
}

// altered is an effect one number of which, of one effect in it, is another, or that has one more within.
func altered(r *rand.Rand, e api.Effect) api.Effect {
	e.Subs = slices.Clone(e.Subs)
	if len(e.Subs) > 0 && r.Intn(2) == 0 {
		i := r.Intn(len(e.Subs))
		e.Subs[i] = altered(r, e.Subs[i])
		return e
	}
	switch r.Intn(5) {
	case 0:
		e.Op++
	case 1:
		e.N--
	case 2:
		e.M += 1 << 32
	case 3:
		e.Who += 3
	case 4:
		e.Subs = append(e.Subs, gain)
	}
	return e
}

// spoil changes each number of an effect, and fills the spare room of its lists.
func spoil(e *api.Effect) {
	e.Op, e.N, e.M, e.Who = e.Op+1, e.N+1, e.M+1, e.Who+1
	for i := range e.Subs {
		spoil(&e.Subs[i])
	}
	room := e.Subs[len(e.Subs):cap(e.Subs)]
	for i := range room {
		room[i].Op = 77
	}
}

// roomy is an effect apart whose lists have spare room, in which something stands.
func roomy(e api.Effect) api.Effect {
	var subs []api.Effect
	for _, sub := range e.Subs {
		subs = append(subs, roomy(sub))
	}
	e.Subs = append(subs, api.Effect{Op: 55}, api.Effect{Op: 56})[:len(subs)]
	return e
}

// P6.1: Copy is the same, and shares nothing with what it was made of, nor do two lists of it share any.
func TestCopy(t *testing.T) {
	r := rand.New(rand.NewSource(66666))
	shared := []api.Effect{seq(gain, hit), hit}
	list := []api.Effect{{}, gain, seq(gain), {Op: api.Seq, Subs: []api.Effect{}}, seq(shared...), seq(choice(shared...), seq(shared...), all(shared[:1]...)), chain(999, gain), {Op: -1, N: math.MinInt, M: math.MaxInt, Who: 1 << 40}}
	for range 200 {
		list = append(list, grown(r, 4, true))
	}
	for _, e := range list {
		was, own := Bytes(e), roomy(e)
		one, two := Copy(own), Copy(e)
		if !equal(one, e) || !equal(two, e) {
			t.Fatalf("Copy(%v) = %v", e, one)
		}
		spoil(&one)
		if !bytes.Equal(Bytes(own), was) || !bytes.Equal(Bytes(e), was) {
			t.Fatalf("a change of the copy changes %v", e)
		}
		walk(own, 1, func(e api.Effect, _ int) {
			if room := e.Subs[len(e.Subs) : len(e.Subs)+2]; room[0].Op != 55 || room[1].Op != 56 {
				t.Fatalf("the spare room of %v is filled", e)
			}
		})
		spoil(&own)
		if !bytes.Equal(Bytes(two), was) {
			t.Fatalf("a change of %v changes its copy", e)
		}
		checkApart(t, two)
	}
}

// checkApart looks whether no two lists of an answer share any place.
func checkApart(t *testing.T, e api.Effect) {
	t.Helper()
	seen := map[*api.Effect]bool{}
	walk(e, 1, func(e api.Effect, _ int) {
		for i := range e.Subs {
			if seen[&e.Subs[i]] {
				t.Fatalf("two lists of %v share one", e)
			}
			seen[&e.Subs[i]] = true
		}
	})
}

// P6.1: no call changes what it is given, and what is taken or told shares nothing with it.
func TestArgumentsStay(t *testing.T) {
	r := rand.New(rand.NewSource(666666))
	for range 300 {
		e := grown(r, 3, true)
		was := Copy(e)
		Check(e, r.Intn(6))
		Size(e)
		Depth(e)
		Has(e, r.Intn(26))
		Same(e, was)
		one, two := Bytes(e), Bytes(e)
		for i := range one {
			one[i]++
		}
		if !equal(e, was) || !bytes.Equal(two, reckoned(was)) {
			t.Fatalf("%v was %v", e, was)
		}
		b := append(slices.Clone(two), 7, 8, 9)
		kept := slices.Clone(b)
		taken, rest, err := Take(b)
		if err != nil {
			continue
		}
		checkApart(t, taken)
		for i := range rest {
			rest[i]++
		}
		if !bytes.Equal(b, kept) {
			t.Fatalf("the rest is the memory of %v", b)
		}
		again, rest, _ := Take(b)
		clear(b)
		spoil(&taken)
		if !equal(again, was) || !bytes.Equal(rest, []byte{7, 8, 9}) {
			t.Fatalf("%v was %v", again, was)
		}
	}
}

// P6.2: of right effects, of as many as may be and as deep as may be, their bytes tell them; none has more within than is said.
func TestBytesTell(t *testing.T) {
	r := rand.New(rand.NewSource(6666666))
	list := []api.Effect{{}, gain, chain(7, gain), chain(6, all(hit)), seq(slices.Repeat([]api.Effect{gain}, 8)...), choice(all(hit), seq(gain))}
	for len(list) < 2000 {
		if e := grown(r, 1+r.Intn(3), false); Check(e, api.Creature) == nil {
			list = append(list, e)
		}
	}
	for _, e := range list {
		for _, behind := range [][]byte{nil, {0}, {128}, Bytes(gain)} {
			checkTaken(t, e, Bytes(e), behind)
		}
		for size := range min(len(Bytes(e)), 60) {
			checkRefused(t, Bytes(e)[:size], api.ErrEnd)
		}
		walk(e, 1, func(e api.Effect, level int) {
			if len(e.Subs) < rows[e.Op].least || len(e.Subs) > rows[e.Op].most || level > 8 {
				t.Errorf("a right one has %d within, %d deep", len(e.Subs), level)
			}
		})
	}
	checkUnlike(t, list)
}

// checkUnlike looks whether unlike effects have unlike bytes, of which none begin with another one's.
func checkUnlike(t *testing.T, list []api.Effect) {
	t.Helper()
	slices.SortFunc(list, func(a, b api.Effect) int { return bytes.Compare(Bytes(a), Bytes(b)) })
	list = slices.CompactFunc(list, equal)
	for i := range list[1:] {
		// Sorted, bytes that begin with others stand somewhere behind them, with none between that don't begin so.
		if a, b := Bytes(list[i]), Bytes(list[i+1]); bytes.HasPrefix(b, a) {
			t.Errorf("the bytes of %v begin with those of %v", list[i+1], list[i])
		}
	}
}

// P6.2: all effects with few ops and numbers, of few within, wrong ones too: unlike ones have unlike bytes.
func TestBytesUnlike(t *testing.T) {
	var single []api.Effect
	for _, op := range []int{0, 1, 21, -1, 64} {
		for _, n := range []int{0, 1, -1, 64} {
			single = append(single, api.Effect{Op: op, N: n}, api.Effect{Op: op, M: n}, api.Effect{Op: op, Who: n})
		}
	}
	list := slices.Clone(single)
	for _, a := range single {
		list = append(list, seq(a), choice(a), seq(seq(a)), seq(a, gain), seq(gain, a), seq(seq(a), gain), seq(seq(a, gain)), seq(slices.Repeat([]api.Effect{a}, 9)...))
		for _, b := range single {
			list = append(list, seq(a, b), seq(a, seq(b)), api.Effect{Op: a.Op, N: a.N, M: a.M, Who: a.Who, Subs: []api.Effect{b}})
		}
	}
	checkUnlike(t, list)
}
