package card

import (
	"fmt"
	"math"
	"math/rand"
	"reflect"
	"slices"
	"strings"
	"testing"

	"mulligan/api"
	"mulligan/effect"
)

// far are numbers outside of each span, some of which are right if they are cut off or wrapped around.
var far = []int{
	math.MinInt, math.MinInt + 1, -1 << 32, -1<<32 + 1, -1 << 31, -1000, -256, -255, -100, -99, -7, -6, -5, -4, -2, -1, 256, 257, 512, 1000, 1 << 31,
	1 << 32, 1<<32 + 1, 1<<32 + 2, 1 << 62, math.MaxInt - 1, math.MaxInt,
}

// edges are numbers about the ends of all spans.
var edges = append([]int{0, 1, 2, 3, 4, 5, 6, 7, 8, 16, 19, 20, 21, 63, 64, 98, 99, 100, 101, 127, 128, 254, 255}, far...)

// The effects that the tests have cards do: gain is right for each target, hit for creatures, jab for what may be hurt, stop for what is cast.
var (
	gain = api.Effect{Op: api.Gain, N: 1}
	hit  = api.Effect{Op: api.Destroy, Who: api.Target}
	jab  = api.Effect{Op: api.Damage, N: 2, Who: api.Target}
	stop = api.Effect{Op: api.Counter, Who: api.Target}
	mine = api.Effect{Op: api.AddMana, N: 1}
	pump = api.Effect{Op: api.Pump, N: 1, M: 1, Who: api.Target}
)

// all and seq are effects with others within.
func all(subs ...api.Effect) api.Effect { return api.Effect{Op: api.All, N: 1, Subs: subs} }
func seq(subs ...api.Effect) api.Effect { return api.Effect{Op: api.Seq, Subs: subs} }

// chain is an effect in so many others, one in the other.
func chain(outer int, inner api.Effect) api.Effect {
	for range outer {
		inner = seq(inner)
	}
	return inner
}

// ability is a right one that counts then.
func ability(when int) api.Ability {
	switch when {
	case api.Static:
		return api.Ability{When: when, Do: all(pump)}
	case api.ManaTap:
		return api.Ability{When: when, Tap: true, Do: mine}
	}
	return api.Ability{When: when, Do: gain}
}

// plain is a right card of a kind with as few abilities as it may have.
func plain(kind int) api.Card {
	c := api.Card{Kind: kind}
	switch kind {
	case api.Beast:
		c.Tough = 1
	case api.Magic:
		c.Abilities = []api.Ability{ability(api.Spell)}
	}
	return c
}

// bearing is a card that may have such abilities, with them.
func bearing(abilities ...api.Ability) api.Card {
	c := api.Card{Kind: api.Relic, Abilities: abilities}
	if len(abilities) > 0 && abilities[0].When == api.Spell {
		c.Kind = api.Magic
	}
	return c
}

// summed is what a cost's numbers are in all; -1, if they aren't those of a cost.
func summed(c api.Cost) int {
	sum := 0
	for _, n := range c {
		if n < 0 || n > 1000 {
			return -1
		}
		sum += n
	}
	return sum
}

// allZero tells whether nothing is to be paid.
func allZero(c api.Cost) bool { return c == api.Cost{} }

// within tells whether a number stands between two.
func within(n, least, most int) bool { return least <= n && n <= most }

// fault is an error and whether a thing has it.
type fault struct {
	has bool
	err error
}

// first is the first error that is there.
func first(faults ...fault) error {
	for _, f := range faults {
		if f.has {
			return f.err
		}
	}
	return nil
}

// expected is what Check is to answer, by the chapter's words: the kinds' letters s, b, m, r, and the whens' letters, s for Spell, a for Active, e, d, u for what comes of itself, t for Static, m for ManaTap.
func expected(c api.Card) error {
	kind := letter("sbmr", c.Kind)
	var list []string
	for _, a := range c.Abilities {
		list = append(list, letter("saedutm", a.When))
	}
	whens := strings.Join(list, "")
	own := first(
		fault{kind == " " || !within(c.Colour, 0, 5), api.ErrKind},
		fault{!within(summed(c.Cost), 0, 20) || kind == "s" && !allZero(c.Cost), api.ErrCost},
		fault{kind == "b" && !(within(c.Power, 0, 99) && within(c.Tough, 1, 99) && within(c.Says, 0, 255)), api.ErrRange},
		fault{kind != "b" && (c.Power != 0 || c.Tough != 0 || c.Says != 0), api.ErrRange},
		fault{c.Fast && strings.Contains("sr", kind), api.ErrForm},
		fault{kind == "m" && whens != "s", api.ErrForm},
		fault{kind != "m" && (len(whens) > 4 || strings.Contains(whens, "s")), api.ErrForm},
	)
	if own != nil {
		return own
	}
	for _, a := range c.Abilities {
		if err := expectedOf(a); err != nil {
			return err
		}
	}
	return nil
}

// expectedOf is the first error of an ability.
func expectedOf(a api.Ability) error {
	when := letter("saedutm", a.When)
	own := first(
		fault{when == " ", api.ErrKind},
		fault{!within(summed(a.Cost), 0, 20) || when != "a" && !allZero(a.Cost), api.ErrCost},
		fault{when == "m" && !a.Tap || when != "m" && when != "a" && a.Tap, api.ErrForm},
		fault{!within(a.Target, 0, 5) || when != "s" && when != "a" && a.Target != 0, api.ErrTarget},
	)
	if own != nil {
		return own
	}
	if err := effect.Check(a.Do, a.Target); err != nil {
		return err
	}
	return first(
		fault{when == "m" && (a.Do.Op != 15 || a.Do.Who != 0), api.ErrForm},
		fault{when == "t" && (a.Do.Op != 20 || !slices.Contains([]int{10, 23, 24, 25}, a.Do.Subs[0].Op)), api.ErrForm},
	)
}

// letter is a place's letter among letters; a blank, if there is none.
func letter(letters string, place int) string {
	if place < 0 || place >= len(letters) {
		return " "
	}
	return letters[place : place+1]
}

// checkCheck holds a Check against the reckoning.
func checkCheck(t *testing.T, c api.Card) {
	t.Helper()
	if got, want := Check(c), expected(c); got != want {
		t.Errorf("Check(%v) = %v, not %v", c, got, want)
	}
}

// checkTold holds a Check against the reckoning and against an error written out.
func checkTold(t *testing.T, c api.Card, want error) {
	t.Helper()
	checkCheck(t, c)
	if got := Check(c); got != want {
		t.Errorf("Check(%v) = %v, not %v", c, got, want)
	}
}

// P7.1: the chapter's example, and right cards of each kind.
func TestCheckRight(t *testing.T) {
	checkTold(t, api.Card{Kind: api.Beast, Power: 1, Tough: 1}, nil)
	checkTold(t, api.Card{Kind: api.Beast, Power: 1}, api.ErrRange)
	checkTold(t, api.Card{}, nil)
	checkTold(t, api.Card{Kind: api.Relic}, nil)
	checkTold(t, api.Card{Kind: api.Magic}, api.ErrForm)
	for _, c := range []api.Card{
		{Kind: api.Source, Colour: 5, Abilities: []api.Ability{{When: api.Enters, Do: api.Effect{Op: api.Lose, N: 5}}, ability(api.ManaTap)}},
		{
			Kind: api.Beast, Colour: 4, Fast: true, Cost: api.Cost{0, 0, 0, 0, 2, 7}, Power: 99, Tough: 99, Says: 255,
			Abilities: []api.Ability{
				{When: api.Active, Cost: api.Cost{0, 0, 0, 0, 1}, Do: api.Effect{Op: api.Pump, N: 1, M: 1, Who: api.Self}},
				{When: api.Active, Cost: api.Cost{0, 0, 0, 1}, Tap: true, Target: api.Any, Do: jab},
				{When: api.Dies, Do: api.Effect{Op: api.Draw, N: 1}},
				{When: api.Upkeeps, Do: api.Effect{Op: api.Lose, N: 1, Who: api.Each}},
			},
		},
		{Kind: api.Magic, Fast: true, Cost: api.Cost{1, 0, 0, 0, 0, 3}, Abilities: []api.Ability{{Target: api.Thing, Do: hit}}},
		{Kind: api.Magic, Colour: 1, Abilities: []api.Ability{{Target: api.Cast, Do: stop}}},
		{Kind: api.Relic, Colour: 2, Cost: api.Cost{0, 0, 1, 0, 0, 1}, Abilities: []api.Ability{{When: api.Static, Do: all(pump)}}},
	} {
		checkTold(t, c, nil)
	}
}

// P7.1: each number of kinds and colours, about the ends and far off.
func TestCheckKind(t *testing.T) {
	for _, n := range edges {
		for kind := range 4 {
			c := plain(kind)
			c.Colour = n
			want := error(nil)
			if n < 0 || n > 5 {
				want = api.ErrKind
			}
			checkTold(t, c, want)
		}
		for colour := range 6 {
			c := api.Card{Kind: n, Colour: colour}
			checkCheck(t, c)
			if n < 0 || n > 3 {
				checkTold(t, c, api.ErrKind)
			}
		}
	}
}

// costs are costs about the ends: each number at each place, twenty and about it in two places, in all ways, and sums that wrap around.
func costs() []api.Cost {
	list := []api.Cost{
		{4, 4, 4, 4, 4, 0}, {4, 4, 4, 4, 4, 1}, {3, 3, 3, 3, 3, 5}, {3, 3, 3, 3, 3, 6}, {20, 20, 20, 20, 20, 20}, {0, 0, 0, 0, 0, 1001}, {1001},
		{math.MinInt, math.MinInt}, {math.MaxInt, math.MaxInt, 2}, {1 << 62, 1 << 62, 1 << 62, 1 << 62}, {1 << 62, 1 << 62, 1 << 62, 1 << 62, 1, 1},
		{-1, 1}, {1, -1}, {0, 0, 0, 0, -1, 21}, {21, 0, 0, 0, 0, -1}, {-20, 20, 20}, {1000, 1000, 1000, 1000, 1000, 1000},
	}
	for place := range 6 {
		for _, n := range edges {
			list = append(list, put(api.Cost{}, place, n))
			for other := range place {
				for _, m := range []int{-1, 1, 10, 19, 20} {
					list = append(list, put(put(api.Cost{}, place, n), other, m), put(put(api.Cost{}, place, m), other, n))
				}
			}
		}
	}
	return list
}

// put is a cost with n at a place.
func put(c api.Cost, place, n int) api.Cost {
	c[place] = n
	return c
}

// P7.1: what a card may cost, by its kind.
func TestCheckCost(t *testing.T) {
	for _, cost := range costs() {
		for kind := range 4 {
			c := plain(kind)
			c.Cost = cost
			sum := summed(cost)
			want := error(nil)
			if sum < 0 || sum > 20 || kind == api.Source && sum != 0 {
				want = api.ErrCost
			}
			checkTold(t, c, want)
		}
	}
}

// P7.1: what an ability may cost, by when it counts, be it the first one of its card or not.
func TestCheckAbilityCost(t *testing.T) {
	for _, cost := range costs() {
		for when := range 7 {
			a := ability(when)
			a.Cost = cost
			sum := summed(cost)
			want := error(nil)
			if sum < 0 || sum > 20 || when != api.Active && sum != 0 {
				want = api.ErrCost
			}
			checkTold(t, bearing(a), want)
			if when != api.Spell {
				checkTold(t, bearing(ability(api.Dies), a), want)
			}
		}
	}
}

// P7.1: power, tough and words of each kind, about the ends and far off.
func TestCheckNumbers(t *testing.T) {
	for _, n := range edges {
		for kind := range 4 {
			for place, most := range []int{99, 99, 255} {
				c := plain(kind)
				least := 0
				switch place {
				case 0:
					c.Power = n
				case 1:
					c.Tough, least = n, 1
				case 2:
					c.Says = n
				}
				if kind != api.Beast {
					least, most = 0, 0
				}
				want := error(nil)
				if n < least || n > most {
					want = api.ErrRange
				}
				checkTold(t, c, want)
			}
		}
	}
	for _, numbers := range [][3]int{{0, 1, 0}, {99, 99, 255}, {1, -1, 0}, {-1, 1, 0}, {1, 0, -1}, {100, 99, 255}, {99, 100, 255}, {99, 99, 256}, {0, 0, 0}, {5, 0, 5}} {
		for kind := range 4 {
			c := plain(kind)
			c.Power, c.Tough, c.Says = numbers[0], numbers[1], numbers[2]
			checkCheck(t, c)
		}
	}
}

// P7.1: which kinds may be Fast.
func TestCheckFast(t *testing.T) {
	for kind, want := range []error{api.ErrForm, nil, nil, api.ErrForm} {
		c := plain(kind)
		c.Fast = true
		checkTold(t, c, want)
	}
}

// P7.1: how many abilities each kind may have, and which: all lists of at most three whens, numbers that aren't any among them, and long ones of one when.
func TestCheckHowMany(t *testing.T) {
	lists := [][]int{nil}
	for from := 0; len(lists[from]) < 3; from++ {
		for when := -1; when <= 7; when++ {
			lists = append(lists, append(slices.Clone(lists[from]), when))
		}
	}
	for _, count := range []int{4, 5, 6, 7, 8, 9, 16, 255, 256, 257, 260, 65536, 65537, 65540} {
		for when := range 7 {
			lists = append(lists, slices.Repeat([]int{when}, count))
		}
		lists = append(lists, append(slices.Repeat([]int{api.Dies}, count-1), api.Spell), append(slices.Repeat([]int{api.Dies}, count-1), 7))
	}
	for _, list := range lists {
		for kind := range 4 {
			c := plain(kind)
			c.Abilities = nil
			for _, when := range list {
				c.Abilities = append(c.Abilities, ability(when))
			}
			checkCheck(t, c)
		}
	}
	for kind := range 4 {
		for count := range 9 {
			c := plain(kind)
			c.Abilities = slices.Repeat([]api.Ability{ability(api.Enters)}, count)
			want := error(nil)
			if count > 4 || kind == api.Magic {
				want = api.ErrForm
			}
			checkTold(t, c, want)
			c.Abilities = append(c.Abilities, ability(api.Spell))
			want = api.ErrForm
			if count == 0 && kind == api.Magic {
				want = nil
			}
			checkTold(t, c, want)
		}
	}
}

// P7.1: when an ability counts, about the ends and far off; of Magic another one than a Spell is told as that.
func TestCheckWhen(t *testing.T) {
	for _, when := range edges {
		a := ability(when)
		for _, c := range []api.Card{
			{Kind: api.Relic, Abilities: []api.Ability{a}}, {Abilities: []api.Ability{ability(api.Dies), a}},
			{Kind: api.Beast, Tough: 1, Abilities: []api.Ability{a, ability(api.Dies)}},
		} {
			want := error(nil)
			switch {
			case when == api.Spell:
				want = api.ErrForm
			case when < 0 || when > 6:
				want = api.ErrKind
			}
			checkTold(t, c, want)
		}
		want := error(api.ErrForm)
		if when == api.Spell {
			want = nil
		}
		checkTold(t, api.Card{Kind: api.Magic, Abilities: []api.Ability{a}}, want)
	}
}

// P7.1: which abilities may tap.
func TestCheckTap(t *testing.T) {
	for when := range 7 {
		for _, tap := range []bool{false, true} {
			a := ability(when)
			a.Tap = tap
			want := error(nil)
			if tap && when != api.ManaTap && when != api.Active || !tap && when == api.ManaTap {
				want = api.ErrForm
			}
			checkTold(t, bearing(a), want)
		}
	}
}

// P7.1: what an ability may aim at, by when it counts, about the ends and far off.
func TestCheckTarget(t *testing.T) {
	for when := range 7 {
		for _, target := range edges {
			a := ability(when)
			a.Target = target
			most := 0
			if when == api.Spell || when == api.Active {
				most = 5
			}
			want := error(nil)
			if target < 0 || target > most {
				want = api.ErrTarget
			}
			checkTold(t, bearing(a), want)
		}
	}
}

// effects are some of each op, about whomever, right ones and wrong ones, and some that are nested.
func effects() []api.Effect {
	list := []api.Effect{
		{}, {Op: 26}, {Op: -1}, {Op: 15 + 64}, {Op: api.AddMana, M: 6}, {Op: api.AddMana, N: 100}, {Op: api.AddMana, N: 99, M: 5}, {Op: api.AddMana, Who: 5},
		{Op: api.AddMana, Subs: []api.Effect{gain}}, seq(), seq(mine), seq(mine, mine), seq(gain, hit), seq(all(pump)), chain(7, gain), chain(8, gain), chain(999, gain),
		chain(6, all(pump)), chain(7, all(pump)), {Op: api.If, N: 1, Subs: []api.Effect{all(pump)}}, {Op: api.If, Subs: []api.Effect{mine}}, all(), all(pump, pump),
		{Op: api.All, N: 4, Subs: []api.Effect{pump}}, {Op: api.All, Who: api.Each, Subs: []api.Effect{pump}}, all(seq(pump)), all(all(pump)),
		{Op: api.All, N: -1, Subs: []api.Effect{jab}}, {Op: api.All, M: 100, Subs: []api.Effect{pump}},
		all(api.Effect{Op: api.Pump, N: -99, M: 99, Who: api.Target}), all(api.Effect{Op: api.Pump, N: -100, Who: api.Target}),
		all(api.Effect{Op: api.Grant, N: 255, Who: api.Target}), all(api.Effect{Op: api.Grant, N: 256, Who: api.Target}),
	}
	for op := range 26 {
		for who := range 5 {
			e := api.Effect{Op: op, N: 2, M: 2, Who: who}
			if op == api.Make {
				e.M = 119
			}
			list = append(list, e, all(e), seq(e), seq(gain, all(e)))
			for n := range 4 {
				list = append(list, api.Effect{Op: api.All, N: n, Subs: []api.Effect{e}})
			}
		}
	}
	return list
}

// P7.1: what an ability may do, by when it counts and what it aims at.
func TestCheckEffect(t *testing.T) {
	for _, e := range effects() {
		for when := range 7 {
			for target := range 6 {
				a := ability(when)
				a.Target, a.Do = target, e
				checkCheck(t, bearing(a))
				if when != api.Spell {
					checkCheck(t, bearing(ability(api.Upkeeps), a))
				}
			}
		}
	}
}

// P7.1: what abilities do, written out: a ManaTap gives its own player mana, a Static does what lasts to all, others whatever.
func TestCheckEffectTold(t *testing.T) {
	about := func(op, who int) api.Effect { return api.Effect{Op: op, N: 1, M: 1, Who: who} }
	for _, c := range []struct {
		when, target int
		do           api.Effect
		want         error
	}{
		{api.ManaTap, 0, about(api.AddMana, api.You), nil},
		{api.ManaTap, 0, about(api.AddMana, api.Other), api.ErrForm},
		{api.ManaTap, 0, about(api.AddMana, api.Each), api.ErrForm},
		{api.ManaTap, 0, about(api.AddMana, api.Target), api.ErrTarget},
		{api.ManaTap, 0, about(api.AddMana, api.Self), api.ErrTarget},
		{api.ManaTap, 0, about(api.AddMana, 5), api.ErrRange},
		{api.ManaTap, 0, about(api.Gain, api.You), api.ErrForm},
		{api.ManaTap, 0, seq(mine), api.ErrForm},
		{api.ManaTap, 0, api.Effect{}, api.ErrForm},
		{api.ManaTap, 0, all(pump), api.ErrForm},
		{api.ManaTap, api.Player, mine, api.ErrTarget},
		{api.Static, 0, all(about(api.Pump, api.Target)), nil},
		{api.Static, 0, all(about(api.Grant, api.Target)), nil},
		{api.Static, 0, all(about(api.Become, api.Target)), nil},
		{api.Static, 0, all(about(api.Strip, api.Target)), nil},
		{api.Static, 0, all(about(api.Pump, api.Self)), api.ErrTarget},
		{api.Static, 0, all(about(api.Damage, api.Target)), api.ErrForm},
		{api.Static, 0, all(about(api.Destroy, api.Target)), api.ErrForm},
		{api.Static, 0, all(about(api.Bounce, api.Target)), api.ErrForm},
		{api.Static, 0, all(about(api.Banish, api.Target)), api.ErrForm},
		{api.Static, 0, all(about(api.Grow, api.Target)), api.ErrForm},
		{api.Static, 0, all(about(api.Tap, api.Target)), api.ErrForm},
		{api.Static, 0, all(about(api.Untap, api.Target)), api.ErrForm},
		{api.Static, 0, all(about(api.Gain, api.You)), api.ErrForm},
		{api.Static, 0, all(), api.ErrForm},
		{api.Static, 0, seq(all(pump)), api.ErrForm},
		{api.Static, 0, seq(pump), api.ErrTarget},
		{api.Static, 0, about(api.Pump, api.Self), api.ErrForm},
		{api.Static, 0, about(api.Pump, api.Target), api.ErrTarget},
		{api.Static, 0, mine, api.ErrForm},
		{api.Static, 0, api.Effect{}, api.ErrForm},
		{api.Spell, api.NoTarget, jab, api.ErrTarget},
		{api.Spell, api.Any, jab, nil},
		{api.Spell, api.Any, hit, api.ErrTarget},
		{api.Spell, api.Creature, hit, nil},
		{api.Spell, api.Cast, stop, nil},
		{api.Spell, api.Thing, stop, api.ErrTarget},
		{api.Spell, api.Player, about(api.Discard, api.Target), nil},
		{api.Spell, 0, all(hit), nil},
		{api.Spell, 0, mine, nil},
		{api.Active, api.Creature, seq(gain, hit), nil},
		{api.Active, api.Cast, hit, api.ErrTarget},
		{api.Active, 0, all(jab), nil},
		{api.Active, 0, about(api.AddMana, api.Each), nil},
		{api.Active, 0, api.Effect{}, nil},
		{api.Active, 0, chain(8, gain), api.ErrLong},
		{api.Enters, 0, seq(), api.ErrForm},
		{api.Enters, 0, hit, api.ErrTarget},
		{api.Enters, 0, all(hit), nil},
		{api.Dies, 0, about(api.Damage, api.Each), nil},
		{api.Dies, 0, api.Effect{Op: 26}, api.ErrKind},
		{api.Upkeeps, 0, about(api.AddMana, api.You), nil},
		{api.Upkeeps, 0, api.Effect{Op: api.Gain, N: -1}, api.ErrRange},
	} {
		a := api.Ability{When: c.when, Tap: c.when == api.ManaTap, Target: c.target, Do: c.do}
		checkTold(t, bearing(a), c.want)
	}
}

// wrongs are changes of a card with four abilities, each with one error, in the chapter's order, card by card and ability by ability.
func wrongs() []func(*api.Card) {
	list := []func(*api.Card){
		func(c *api.Card) { c.Colour = 6 },
		func(c *api.Card) { c.Cost[0] = 21 },
		func(c *api.Card) { c.Tough = 0 },
		func(c *api.Card) { c.Abilities = append(c.Abilities, ability(api.Dies)) },
	}
	for place := range 4 {
		list = append(list,
			func(c *api.Card) { c.Abilities[place].When = 7 },
			func(c *api.Card) { c.Abilities[place].Cost[2] = -1 },
			func(c *api.Card) { c.Abilities[place].Tap = !c.Abilities[place].Tap },
			func(c *api.Card) { c.Abilities[place].Target = 6 },
			func(c *api.Card) { c.Abilities[place].Do.N = 100 },
			func(c *api.Card) { c.Abilities[place].Do = seq(gain) },
		)
	}
	return list
}

// P7.1: of two errors the one that is named first is told, the card's own ahead of its abilities', an ability's ahead of the next one's.
func TestCheckFirst(t *testing.T) {
	told := []error{api.ErrKind, api.ErrCost, api.ErrRange, api.ErrForm}
	for range 4 {
		told = append(told, api.ErrKind, api.ErrCost, api.ErrForm, api.ErrTarget, api.ErrRange, api.ErrForm)
	}
	for i, one := range wrongs() {
		for j, other := range wrongs()[:i+1] {
			c := api.Card{Kind: api.Beast, Tough: 1}
			for range 2 {
				c.Abilities = append(c.Abilities, ability(api.ManaTap), ability(api.Static))
			}
			if j < i {
				one(&c)
			}
			other(&c) // the earlier error, which the later one's change can't hide, since it is made behind it
			checkTold(t, c, told[j])
		}
	}
	// What the card is, ahead of what its abilities are; of Magic how many they are, and that one is a Spell, ahead of all that one says.
	for _, c := range []struct {
		card api.Card
		want error
	}{
		{api.Card{Kind: 4, Colour: -1, Cost: api.Cost{21}}, api.ErrKind},
		{api.Card{Cost: api.Cost{1}, Power: 1, Fast: true}, api.ErrCost},
		{api.Card{Power: 1, Fast: true}, api.ErrRange},
		{api.Card{Kind: api.Magic, Tough: 1, Abilities: []api.Ability{ability(7)}}, api.ErrRange},
		{api.Card{Kind: api.Magic, Abilities: []api.Ability{ability(7)}}, api.ErrForm},
		{api.Card{Kind: api.Magic, Abilities: []api.Ability{{Cost: api.Cost{1}, Tap: true, Target: 6}, ability(7)}}, api.ErrForm},
		{api.Card{Kind: api.Magic, Abilities: []api.Ability{{Cost: api.Cost{1}, Tap: true, Target: 6}}}, api.ErrCost},
		{api.Card{Kind: api.Magic, Abilities: []api.Ability{{Tap: true, Target: 6}}}, api.ErrForm},
		{api.Card{Kind: api.Magic, Abilities: []api.Ability{{Target: 6, Do: api.Effect{Op: 26}}}}, api.ErrTarget},
		{api.Card{Kind: api.Magic, Abilities: []api.Ability{{Target: 5, Do: api.Effect{Op: 26}}}}, api.ErrKind},
		{api.Card{Kind: api.Relic, Abilities: []api.Ability{ability(7), ability(api.Spell)}}, api.ErrForm},
		{api.Card{Kind: api.Relic, Abilities: []api.Ability{{When: api.Static}, ability(7)}}, api.ErrForm},
		{api.Card{Kind: api.Relic, Abilities: []api.Ability{ability(7), {When: api.Static}}}, api.ErrKind},
	} {
		checkTold(t, c.card, c.want)
	}
}

// draw is one of some numbers.
func draw(r *rand.Rand, list ...int) int { return list[r.Intn(len(list))] }

// drawn is a card drawn at random, of numbers that are mostly right.
func drawn(r *rand.Rand, does []api.Effect) api.Card {
	c := plain(draw(r, 0, 1, 1, 2, 2, 3))
	c.Colour, c.Fast = draw(r, 0, 1, 2, 3, 4, 5), r.Intn(4) == 0
	if c.Kind != api.Source || r.Intn(8) == 0 {
		c.Cost[r.Intn(6)] = draw(r, 0, 1, 20, 20, 21)
	}
	if c.Kind == api.Beast {
		c.Power, c.Tough, c.Says = draw(r, 0, 1, 99), draw(r, 1, 1, 2, 99), draw(r, 0, 1, 255)
	}
	if c.Kind != api.Magic {
		for range r.Intn(5) {
			c.Abilities = append(c.Abilities, ability(draw(r, 1, 2, 3, 4, 5, 6)))
		}
	}
	for i := range c.Abilities {
		a := &c.Abilities[i]
		if r.Intn(3) == 0 {
			a.Do = does[r.Intn(len(does))]
		}
		if a.When < 2 {
			a.Target = r.Intn(6)
		}
		switch r.Intn(12) {
		case 0:
			a.When = draw(r, edges...)
		case 1:
			a.Cost[r.Intn(6)] = draw(r, edges...)
		case 2:
			a.Tap = !a.Tap
		case 3:
			a.Target = draw(r, edges...)
		}
	}
	return c
}

// P7.1: cards drawn at random.
func TestCheckDrawn(t *testing.T) {
	r := rand.New(rand.NewSource(7))
	does := effects()
	counts := map[error]int{}
	for range 100000 {
		c := drawn(r, does)
		checkCheck(t, c)
		counts[expected(c)]++
	}
	for _, err := range []error{nil, api.ErrCost, api.ErrForm, api.ErrKind, api.ErrTarget, api.ErrRange, api.ErrLong} {
		if counts[err] < 50 {
			t.Errorf("%v came %d times only", err, counts[err])
		}
	}
}

// P7.1: the places of abilities, be the card right or not, and whatever the when.
func TestUses(t *testing.T) {
	for _, c := range []struct {
		whens []int
		when  int
		want  []int
	}{
		{nil, api.Spell, nil},
		{[]int{}, api.Active, nil},
		{[]int{api.Spell}, api.Spell, []int{0}},
		{[]int{api.Spell}, api.Active, nil},
		{[]int{api.Active, api.Dies, api.Active, api.Active}, api.Active, []int{0, 2, 3}},
		{[]int{api.Active, api.Dies, api.Active, api.Active}, api.Dies, []int{1}},
		{[]int{api.Active, api.Dies, api.Active, api.Active}, api.Enters, nil},
		{[]int{api.Active, api.Dies, api.Active, api.Active}, -1, nil},
		{[]int{api.Static, api.ManaTap}, api.ManaTap, []int{1}},
		{[]int{api.ManaTap, api.Static}, api.ManaTap, []int{0}},
		{[]int{6, 5, 4, 3, 2, 1, 0}, 0, []int{6}},
		{[]int{6, 5, 4, 3, 2, 1, 0}, 7, nil},
		{[]int{-1, 7, math.MinInt, 7, math.MaxInt}, 7, []int{1, 3}},
		{[]int{-1, 7, math.MinInt, 7, math.MaxInt}, math.MinInt, []int{2}},
		{[]int{1 << 32, 0, 256}, 0, []int{1}},
	} {
		card := api.Card{Kind: api.Relic}
		for _, when := range c.whens {
			card.Abilities = append(card.Abilities, ability(when))
		}
		if got := Uses(card, c.when); !slices.Equal(got, c.want) {
			t.Errorf("Uses of %v, %d: %v, not %v", c.whens, c.when, got, c.want)
		}
	}
	many := Uses(api.Card{Abilities: make([]api.Ability, 1000)}, api.Spell)
	for i, place := range many {
		if i != place {
			t.Fatal(i, place)
		}
	}
	if len(many) != 1000 {
		t.Error(len(many))
	}
}

// P7.1: what the first Spell aims at, be the card right or not.
func TestAims(t *testing.T) {
	for _, c := range []struct {
		abilities []api.Ability
		want      int
	}{
		{nil, api.NoTarget},
		{[]api.Ability{{Target: api.Creature}}, api.Creature},
		{[]api.Ability{{Target: api.Thing}, {Target: api.Player}}, api.Thing},
		{[]api.Ability{{When: api.Active, Target: api.Any}}, api.NoTarget},
		{[]api.Ability{{When: api.Active, Target: api.Any}, {Target: api.Cast}}, api.Cast},
		{[]api.Ability{{When: -1, Target: 1}, {When: 7, Target: 2}, {Target: api.NoTarget}, {Target: 3}}, api.NoTarget},
		{[]api.Ability{{Target: -1}}, -1},
		{[]api.Ability{{When: api.ManaTap, Target: 5}, {Target: math.MaxInt}, {Target: 1}}, math.MaxInt},
	} {
		for kind := -1; kind <= 4; kind++ {
			if got := Aims(api.Card{Kind: kind, Abilities: c.abilities}); got != c.want {
				t.Errorf("Aims of %v = %d, not %d", c.abilities, got, c.want)
			}
		}
	}
}

// full is a card with something at each place, with spare room in each list; each call makes another one.
func full() api.Card {
	room := func(list ...api.Effect) []api.Effect { return append(make([]api.Effect, 0, 8), list...) }
	deep := api.Effect{Op: api.Seq, N: 1, M: 2, Subs: room(gain, api.Effect{Op: api.All, N: 3, Subs: room(hit)}, api.Effect{Op: api.If, N: 2, Subs: room(seq(room(mine)...), jab)})}
	c := api.Card{Kind: 1, Colour: 2, Fast: true, Cost: api.Cost{1, 2, 3, 4, 5, 6}, Power: 7, Tough: 8, Says: 9, Abilities: make([]api.Ability, 0, 8)}
	c.Abilities = append(c.Abilities,
		api.Ability{When: 1, Cost: api.Cost{6, 5, 4, 3, 2, 1}, Tap: true, Target: 3, Do: deep},
		api.Ability{When: 5, Do: all(room(pump)...)},
		api.Ability{When: -3, Cost: api.Cost{math.MinInt}, Target: 77, Do: api.Effect{Op: 99, N: -1, M: -2, Who: 12, Subs: room(api.Effect{}, gain)}},
	)
	return c
}

// places are all numbers, bools and lists of a value, with all within, as changes: of a list, that it is one longer or one shorter.
func places(v reflect.Value) []func() {
	var list []func()
	switch v.Kind() {
	case reflect.Int:
		list = append(list, func() { v.SetInt(v.Int() + 1) }, func() { v.SetInt(v.Int() + 1<<32) }, func() { v.SetInt(^v.Int()) })
	case reflect.Bool:
		list = append(list, func() { v.SetBool(!v.Bool()) })
	case reflect.Struct:
		for i := range v.NumField() {
			list = append(list, places(v.Field(i))...)
		}
	case reflect.Array, reflect.Slice:
		for i := range v.Len() {
			list = append(list, places(v.Index(i))...)
		}
	default:
		panic(v.Kind())
	}
	if v.Kind() == reflect.Slice {
		list = append(list, func() { v.Set(reflect.Append(v, reflect.Zero(v.Type().Elem()))) })
		if v.Len() > 0 {
			list = append(list, func() { v.Set(v.Slice(0, v.Len()-1)) }, func() { v.Set(v.Slice(1, v.Len())) })
		}
	}
	return list
}

// checkSame holds a Same in both directions against what it is to answer.
func checkSame(t *testing.T, a, b api.Card, want bool) {
	t.Helper()
	if Same(a, b) != want || Same(b, a) != want {
		t.Errorf("Same(%v, %v) = %v, Same the other way = %v", a, b, Same(a, b), Same(b, a))
	}
}

// P7.1: cards that are the same, and cards that differ at one place, each of them in turn.
func TestSame(t *testing.T) {
	checkSame(t, api.Card{}, api.Card{}, true)
	checkSame(t, full(), full(), true)
	count := len(places(reflect.ValueOf(new(full())).Elem()))
	for i := range count {
		other := full()
		places(reflect.ValueOf(&other).Elem())[i]()
		checkSame(t, full(), other, false)
		checkSame(t, other, other, true)
		checkSame(t, api.Card{}, other, false)
	}
	if count < 200 {
		t.Errorf("%d places only", count)
	}
	// Abilities that have changed places are others.
	turned := full()
	slices.Reverse(turned.Abilities)
	checkSame(t, full(), turned, false)
	checkSame(t, api.Card{Abilities: make([]api.Ability, 3)}, api.Card{Abilities: make([]api.Ability, 4)}, false)
}

// P7.1: nil and empty lists are the same, at each depth.
func TestSameEmpty(t *testing.T) {
	checkSame(t, api.Card{}, api.Card{Abilities: []api.Ability{}}, true)
	none := api.Card{Abilities: []api.Ability{{Do: gain}, {Do: seq(gain)}}}
	some := api.Card{Abilities: []api.Ability{{Do: api.Effect{Op: api.Gain, N: 1, Subs: []api.Effect{}}}, {Do: seq(api.Effect{Op: api.Gain, N: 1, Subs: []api.Effect{}})}}}
	checkSame(t, none, some, true)
	for _, c := range []api.Card{none, some, {Abilities: []api.Ability{}}, {}} {
		checkSame(t, Copy(c), c, true)
	}
}

// P7.1: a copy is the same, and nothing of it is the card's, spare room included.
func TestCopy(t *testing.T) {
	count := len(places(reflect.ValueOf(new(full())).Elem()))
	for i := range count {
		c := full()
		apart := Copy(c)
		if !reflect.DeepEqual(apart, full()) {
			t.Fatalf("Copy(%v) = %v", full(), apart)
		}
		places(reflect.ValueOf(&apart).Elem())[i]()
		if !reflect.DeepEqual(c, full()) {
			t.Fatalf("the change %d of the copy changed the card: %v", i, c)
		}
		apart = Copy(c)
		places(reflect.ValueOf(&c).Elem())[i]()
		if !reflect.DeepEqual(apart, full()) {
			t.Fatalf("the change %d of the card changed the copy: %v", i, apart)
		}
	}
	if !reflect.DeepEqual(Copy(api.Card{Kind: -1}), api.Card{Kind: -1}) || len(Copy(api.Card{}).Abilities) != 0 {
		t.Error("the copy of a card without abilities is another one")
	}
}

// lists are the first cells of all lists of a card and of its effects, as far as their room goes.
func lists(c api.Card) []any {
	var cells []any
	var into func(e api.Effect)
	into = func(e api.Effect) {
		for i := range e.Subs[:cap(e.Subs)] {
			cells = append(cells, &e.Subs[:cap(e.Subs)][i])
		}
		for _, sub := range e.Subs {
			into(sub)
		}
	}
	for i := range c.Abilities[:cap(c.Abilities)] {
		cells = append(cells, &c.Abilities[:cap(c.Abilities)][i])
	}
	for _, a := range c.Abilities {
		into(a.Do)
	}
	return cells
}

// P7.1, rule 5: no list of a copy shares memory with the card's or with another of its own, be it that the card's do.
func TestCopyMemory(t *testing.T) {
	shared := []api.Effect{gain, seq(gain)}
	twins := api.Card{Abilities: []api.Ability{{Do: seq(shared...)}, {Do: api.Effect{Op: api.Seq, Subs: shared}}, {Do: seq(seq(shared...), api.Effect{Op: api.Seq, Subs: shared})}}}
	for _, c := range []api.Card{full(), twins} {
		apart := Copy(c)
		seen := map[any]bool{}
		for _, cell := range lists(c) {
			seen[cell] = true
		}
		for _, cell := range lists(apart) {
			if seen[cell] {
				t.Fatalf("Copy(%v) shares memory", c)
			}
			seen[cell] = true
		}
	}
}

// P7.1, rule 5: no call changes a card, nor what stands in the spare room of its lists.
func TestArgumentsStay(t *testing.T) {
	c := full()
	calls := map[string]func(){
		"Check": func() { Check(c) },
		"Uses":  func() { Uses(c, 1) },
		"Aims":  func() { Aims(c) },
		"Same":  func() { Same(c, full()) },
		"Copy":  func() { Copy(c) },
	}
	for name, call := range calls {
		before := fmt.Sprint(c, c.Abilities[:cap(c.Abilities)], c.Abilities[0].Do.Subs[:cap(c.Abilities[0].Do.Subs)])
		call()
		after := fmt.Sprint(c, c.Abilities[:cap(c.Abilities)], c.Abilities[0].Do.Subs[:cap(c.Abilities[0].Do.Subs)])
		if before != after {
			t.Errorf("%s changed its card: %s, then %s", name, before, after)
		}
	}
	one, two := Uses(c, 1), Uses(c, 1)
	one[0] = 9
	if two[0] != 0 || Uses(c, 1)[0] != 0 {
		t.Error("the answers of Uses share memory")
	}
}

// P7.1: no call panics, and each ends, for cards with effects 1000 deep and for those with many abilities.
func TestDeep(t *testing.T) {
	deep := api.Card{Kind: api.Magic, Abilities: []api.Ability{{Do: chain(999, gain)}}}
	checkTold(t, deep, api.ErrLong)
	checkSame(t, deep, Copy(deep), true)
	checkSame(t, deep, api.Card{Kind: api.Magic, Abilities: []api.Ability{{Do: chain(998, gain)}}}, false)
	if Aims(deep) != 0 || len(Uses(deep, api.Spell)) != 1 {
		t.Error(Aims(deep), Uses(deep, api.Spell))
	}
	many := api.Card{Abilities: slices.Repeat([]api.Ability{ability(api.ManaTap)}, 100000)}
	checkTold(t, many, api.ErrForm)
	checkSame(t, many, Copy(many), true)
	many.Abilities[99999].Target = 1
	checkSame(t, many, Copy(many), true)
}
