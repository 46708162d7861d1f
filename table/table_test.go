package table

import (
	"math"
	"math/rand"
	"reflect"
	"slices"
	"strconv"
	"strings"
	"testing"

	"mulligan/api"
	"mulligan/card"
	"mulligan/mana"
)

// written is the chapter, card by card, a line each: the number, the kind (behind Fast, if it is), the colour, the cost; of a Beast power/tough and the worth of its words; then, behind bars, its abilities: when it counts, what it costs, T for Tap, its target, its effect.
const written = `
0 Source 0 0 | ManaTap: AddMana 1 of 0, you
1 Source 1 0 | ManaTap: AddMana 1 of 1, you
2 Source 2 0 | ManaTap: AddMana 1 of 2, you
3 Source 3 0 | ManaTap: AddMana 1 of 3, you
4 Source 4 0 | ManaTap: AddMana 1 of 4, you
5 Source 5 0 | Enters: Lose 1, you | ManaTap: AddMana 1 of 5, you
6 Source 5 0 | Enters: Lose 2, you | ManaTap: AddMana 1 of 5, you
7 Source 5 0 | Enters: Lose 3, you | ManaTap: AddMana 2 of 5, you
8 Source 5 0 | Enters: Lose 4, you | ManaTap: AddMana 2 of 5, you
9 Source 5 0 | Enters: Lose 5, you | ManaTap: AddMana 3 of 5, you
10 Beast 0 W 1/1 1 | Enters: Gain 1, you
11 Beast 1 U 1/1 1
12 Beast 2 B 1/1 1 | Dies: Lose 1, other
13 Beast 3 R 2/1 1 | Active R T, Any: Damage 1, target
14 Beast 4 G 1/2 1 | Active G: Pump 1 1, self
15 Beast 0 1W 1/2 2 | Enters: Gain 2, you
16 Beast 1 1U 1/2 2 | Enters: Draw 1, you
17 Beast 2 1B 1/2 2 | Dies: Lose 1, other
18 Beast 3 1R 2/2 2 | Active R T, Any: Damage 1, target
19 Beast 4 1G 1/3 2 | Active G: Pump 1 1, self
20 Beast 0 2W 2/2 4 | Enters: Gain 3, you
21 Beast 1 2U 2/2 4
22 Beast 2 2B 2/2 4 | Dies: Lose 2, other
23 Beast 3 2R 3/2 4 | Active R T, Any: Damage 1, target
24 Beast 4 2G 2/3 4 | Active G: Pump 1 1, self
25 Beast 0 3W 2/3 8 | Enters: Gain 4, you
26 Beast 1 3U 2/3 8 | Enters: Draw 1, you
27 Beast 2 3B 2/3 8 | Dies: Lose 2, other
28 Beast 3 3R 3/3 8 | Active R T, Any: Damage 1, target
29 Beast 4 3G 2/4 8 | Active G: Pump 1 1, self
30 Beast 0 4WW 3/3 16 | Enters: Gain 5, you
31 Beast 1 4UU 3/3 16
32 Beast 2 4BB 3/3 16 | Dies: Lose 3, other
33 Beast 3 4RR 4/3 16 | Active R T, Any: Damage 1, target
34 Beast 4 4GG 3/4 16 | Active G: Pump 1 1, self
35 Beast 0 5WW 3/4 32 | Enters: Gain 6, you
36 Beast 1 5UU 3/4 32 | Enters: Draw 1, you
37 Beast 2 5BB 3/4 32 | Dies: Lose 3, other
38 Beast 3 5RR 4/4 32 | Active R T, Any: Damage 1, target
39 Beast 4 5GG 3/5 32 | Active G: Pump 1 1, self
40 Beast 0 6WW 4/4 64 | Enters: Gain 7, you
41 Beast 1 6UU 4/4 64
42 Beast 2 6BB 4/4 64 | Dies: Lose 4, other
43 Beast 3 6RR 5/4 64 | Active R T, Any: Damage 1, target
44 Beast 4 6GG 4/5 64 | Active G: Pump 1 1, self
45 Beast 0 7WW 4/5 128 | Enters: Gain 8, you
46 Beast 1 7UU 4/5 128 | Enters: Draw 1, you
47 Beast 2 7BB 4/5 128 | Dies: Lose 4, other
48 Beast 3 7RR 5/5 128 | Active R T, Any: Damage 1, target
49 Beast 4 7GG 4/6 128 | Active G: Pump 1 1, self
50 Fast Magic 0 W | Spell: Gain 4, you
51 Fast Magic 1 U | Spell, Cast: Counter, target
52 Fast Magic 2 B | Spell, Creature: Pump -2 -2, target
53 Fast Magic 3 R | Spell, Any: Damage 2, target
54 Fast Magic 4 G | Spell, Creature: Pump 3 3, target
55 Magic 0 1W | Spell, Creature: Destroy, target
56 Magic 1 1U | Spell: Draw 2, you
57 Magic 2 1B | Spell, Player: Discard 1, target
58 Magic 3 1R | Spell, Creature: Damage 4, target
59 Magic 4 1G | Spell, Creature: Grow 2, target
60 Fast Magic 0 2W | Spell: All 1: Pump 1 1
61 Fast Magic 1 2U | Spell, Thing: Bounce, target
62 Fast Magic 2 2B | Spell, Player: Lose 3, target
63 Fast Magic 3 2R | Spell, Creature: Pump 3 0, target
64 Fast Magic 4 2G | Spell, Creature: Grant Trample, target
65 Magic 0 3W | Spell, Thing: Banish, target
66 Magic 1 3U | Spell: Look 3, you
67 Magic 2 3B | Spell: Seq: Lose 2, other; Gain 2, you
68 Magic 3 3R | Spell: All 0: Damage 2
69 Magic 4 3G | Spell: Make 2 of 116, you
70 Fast Magic 0 4W | Spell: Seq: Gain 2, you; Draw 1, you
71 Fast Magic 1 4U | Spell, Creature: Tap, target
72 Fast Magic 2 4B | Spell, Creature: Destroy, target
73 Fast Magic 3 4R | Spell: Damage 3, each
74 Fast Magic 4 4G | Spell: AddMana 3 of 4, you
75 Magic 0 5W | Spell: If 0 with M 10: Gain 8, you; Draw 1, you
76 Magic 1 5U | Spell: Seq: Draw 3, you; Discard 1, you
77 Magic 2 5B | Spell: Mill 4, each
78 Magic 3 5R | Spell, Any: Seq: Damage 2, target; Draw 1, you
79 Magic 4 5G | Spell: All 1: Grow 1
80 Relic 0 1W | Static: All 1: Pump 0 2
81 Relic 1 1U | Static: All 1: Grant Flying
82 Relic 2 1B | Static: All 2: Pump -1 0
83 Relic 3 1R | Static: All 1: Pump 1 0
84 Relic 4 1G | Static: All 1: Pump 1 1
85 Relic 0 2W | Upkeeps: Gain 1, you
86 Relic 1 2U | Upkeeps: Look 1, you
87 Relic 2 2B | Upkeeps: Lose 1, each
88 Relic 3 2R | Upkeeps: Damage 1, other
89 Relic 4 2G | Upkeeps: AddMana 1 of 4, you
90 Relic 0 3W | Active 1 T, Creature: Pump 0 1, target
91 Relic 1 3U | Active 1 T, Creature: Tap, target
92 Relic 2 3B | Active 1 T: Lose 1, other
93 Relic 3 3R | Active 1 T, Any: Damage 1, target
94 Relic 4 3G | Active 1 T, Creature: Untap, target
95 Relic 0 4W | Static: All 0: Strip Flying
96 Relic 1 4U | Active U: Untap, self
97 Relic 2 4B | Static: All 2: Become 1 1
98 Relic 3 4R | Dies: Damage 3, each
99 Relic 4 4G | Enters: Make 1 of 119, you
100 Magic 5 1 | Spell: Shuffle, you
101 Magic 5 2 | Spell: Discard 2, other
102 Magic 5 1 | Spell: Reveal 3, other
103 Fast Magic 5 1 | Spell: Look 2, other
104 Magic 5 2 | Spell: Mill 3, each
105 Fast Magic 5 3 | Spell, Cast: Counter, target
106 Magic 5 2 | Spell: All 0: Bounce
107 Relic 5 2 | Active 0: AddMana 1 of 5, you
108 Beast 5 2 1/1 0 | Active 1: Untap, self | ManaTap: AddMana 2 of 5, you
109 Magic 5 3 | Spell: Make 2 of 112, you
110 Magic 5 4 | Spell: All 0: Destroy
111 Fast Beast 5 3 2/3 5 | Dies: Draw 1, you
112 Beast 5 0 1/1 0
113 Beast 5 0 1/1 1
114 Beast 5 0 2/2 0
115 Beast 5 0 2/2 1
116 Beast 5 0 3/3 0
117 Beast 5 0 3/3 1
118 Beast 5 0 4/4 0
119 Beast 5 0 4/4 1
`

// The names of package api's numbers, by their places.
const (
	kinds   = "Source Beast Magic Relic"
	whens   = "Spell Active Enters Dies Upkeeps Static ManaTap"
	targets = "NoTarget Creature Player Any Cast Thing"
	whom    = "you other target self each"
	ops     = "Nothing Damage Gain Lose Draw Mill Destroy Bounce Banish Counter Pump Grow Tap Untap Make AddMana Reveal Look Shuffle Discard All Seq If Grant Become Strip"
)

// far are numbers of no card, some of which are one's if they are cut off or wrapped around.
var far = []int{
	math.MinInt, math.MinInt + 1, math.MinInt + 65, -1 << 32, -1<<32 + 65, -1 << 31, -1000, -256, -191, -128, -121, -120, -119, -65, -10, -5, -2, -1,
	120, 121, 122, 127, 128, 129, 185, 255, 256, 257, 321, 1000, 1 << 16, 1<<16 + 65, 1 << 31, 1 << 32, 1<<32 + 1, 1<<32 + 65, 1 << 62, math.MaxInt - 1, math.MaxInt,
}

// place is where a name stands among names.
func place(t *testing.T, name, names string) int {
	t.Helper()
	at := slices.Index(strings.Fields(names), name)
	if at < 0 {
		t.Fatalf("%q is none of %s", name, names)
	}
	return at
}

// number is the number of a text.
func number(t *testing.T, text string) int {
	t.Helper()
	n, err := strconv.Atoi(text)
	if err != nil {
		t.Fatal(err)
	}
	return n
}

// costOf is the cost that a text tells, by layer 4.
func costOf(t *testing.T, text string) api.Cost {
	t.Helper()
	c, err := mana.Parse(text)
	if err != nil {
		t.Fatal(text, err)
	}
	return c
}

// effectOf is the effect that a text tells, about somebody, unless it tells whom.
func effectOf(t *testing.T, text string, who int) api.Effect {
	t.Helper()
	first, within, nested := strings.Cut(text, ": ")
	first, about, told := strings.Cut(first, ", ")
	if told {
		who = place(t, about, whom)
	}
	words := strings.Fields(first)
	e := api.Effect{Op: place(t, words[0], ops), Who: who}
	var numbers []int
	for _, word := range words[1:] {
		switch word {
		case "of", "with", "M":
		case "Flying":
			numbers = append(numbers, 1)
		case "Trample":
			numbers = append(numbers, 64)
		default:
			numbers = append(numbers, number(t, word))
		}
	}
	numbers = append(numbers, 0, 0)
	e.N, e.M = numbers[0], numbers[1]
	if nested {
		inner := 0
		if words[0] == "All" {
			inner = place(t, "target", whom)
		}
		for _, sub := range strings.Split(within, "; ") {
			e.Subs = append(e.Subs, effectOf(t, sub, inner))
		}
	}
	return e
}

// abilityOf is the ability that a text tells.
func abilityOf(t *testing.T, text string) api.Ability {
	t.Helper()
	first, does, _ := strings.Cut(text, ": ")
	first, aim, aims := strings.Cut(first, ", ")
	words := strings.Fields(first)
	a := api.Ability{When: place(t, words[0], whens), Do: effectOf(t, does, 0)}
	a.Tap = words[0] == "ManaTap" || words[len(words)-1] == "T"
	if words[0] == "Active" {
		a.Cost = costOf(t, words[1])
	}
	if aims {
		a.Target = place(t, aim, targets)
	}
	return a
}

// cardOf is the number and the card that a line tells.
func cardOf(t *testing.T, line string) (int, api.Card) {
	t.Helper()
	parts := strings.Split(line, " | ")
	var c api.Card
	words := strings.Fields(parts[0])
	n := number(t, words[0])
	if words[1] == "Fast" {
		c.Fast = true
		words = words[1:]
	}
	c.Kind, c.Colour, c.Cost = place(t, words[1], kinds), number(t, words[2]), costOf(t, words[3])
	if words[1] == "Beast" {
		power, tough, _ := strings.Cut(words[4], "/")
		c.Power, c.Tough, c.Says = number(t, power), number(t, tough), number(t, words[5])
	}
	for _, text := range parts[1:] {
		c.Abilities = append(c.Abilities, abilityOf(t, text))
	}
	return n, c
}

// told are all cards, as they are written.
func told(t *testing.T) []api.Card {
	t.Helper()
	var list []api.Card
	for line := range strings.Lines(strings.TrimPrefix(written, "\n")) {
		n, c := cardOf(t, strings.TrimSuffix(line, "\n"))
		if n != len(list) {
			t.Fatalf("the line of %d stands at %d", n, len(list))
		}
		list = append(list, c)
	}
	if len(list) != 120 {
		t.Fatalf("%d cards are written", len(list))
	}
	return list
}

// called are the names of all cards, by the chapter's last sentence ahead of its calls.
func called(t *testing.T) []string {
	t.Helper()
	var list []string
	for n, c := range told(t) {
		name := []string{"source", "beast", "magic", "relic"}[c.Kind]
		if n >= 112 {
			name = "token"
		}
		list = append(list, name+"-"+strconv.Itoa(n))
	}
	return list
}

// have is the card of a number that there is.
func have(t *testing.T, n int) api.Card {
	t.Helper()
	c, err := Card(n)
	if err != nil {
		t.Fatalf("Card(%d): %v", n, err)
	}
	return c
}

// P8.1: all cards are those of the chapter.
func TestCardWritten(t *testing.T) {
	for n, want := range told(t) {
		if got := have(t, n); !card.Same(got, want) {
			t.Errorf("Card(%d) = %v, not %v", n, got, want)
		}
	}
}

// P8.1: all cards are right.
func TestCardRight(t *testing.T) {
	for n := range 120 {
		if err := card.Check(have(t, n)); err != nil {
			t.Errorf("Card(%d) isn't right: %v", n, err)
		}
	}
}

// P8.1: the chapter's example, and cards of each sort, written out in full.
func TestCardOfEachSort(t *testing.T) {
	for n, want := range map[int]api.Card{
		0: {Kind: api.Source, Abilities: []api.Ability{{When: api.ManaTap, Tap: true, Do: api.Effect{Op: api.AddMana, N: 1}}}},
		8: {Kind: api.Source, Colour: 5, Abilities: []api.Ability{
			{When: api.Enters, Do: api.Effect{Op: api.Lose, N: 4}},
			{When: api.ManaTap, Tap: true, Do: api.Effect{Op: api.AddMana, N: 2, M: 5}},
		}},
		43: {Kind: api.Beast, Colour: 3, Cost: api.Cost{0, 0, 0, 2, 0, 6}, Power: 5, Tough: 4, Says: api.Trample, Abilities: []api.Ability{
			{When: api.Active, Cost: api.Cost{0, 0, 0, 1}, Tap: true, Target: api.Any, Do: api.Effect{Op: api.Damage, N: 1, Who: api.Target}},
		}},
		44: {Kind: api.Beast, Colour: 4, Cost: api.Cost{0, 0, 0, 0, 2, 6}, Power: 4, Tough: 5, Says: api.Trample, Abilities: []api.Ability{
			{When: api.Active, Cost: api.Cost{0, 0, 0, 0, 1}, Do: api.Effect{Op: api.Pump, N: 1, M: 1, Who: api.Self}},
		}},
		65: {Kind: api.Magic, Cost: api.Cost{1, 0, 0, 0, 0, 3}, Abilities: []api.Ability{{When: api.Spell, Target: api.Thing, Do: api.Effect{Op: api.Banish, Who: api.Target}}}},
		68: {Kind: api.Magic, Colour: 3, Cost: api.Cost{0, 0, 0, 1, 0, 3}, Abilities: []api.Ability{
			{Do: api.Effect{Op: api.All, Subs: []api.Effect{{Op: api.Damage, N: 2, Who: api.Target}}}},
		}},
		75: {Kind: api.Magic, Cost: api.Cost{1, 0, 0, 0, 0, 5}, Abilities: []api.Ability{
			{Do: api.Effect{Op: api.If, M: 10, Subs: []api.Effect{{Op: api.Gain, N: 8}, {Op: api.Draw, N: 1}}}},
		}},
		78: {Kind: api.Magic, Colour: 3, Cost: api.Cost{0, 0, 0, 1, 0, 5}, Abilities: []api.Ability{
			{Target: api.Any, Do: api.Effect{Op: api.Seq, Subs: []api.Effect{{Op: api.Damage, N: 2, Who: api.Target}, {Op: api.Draw, N: 1}}}},
		}},
		82: {Kind: api.Relic, Colour: 2, Cost: api.Cost{0, 0, 1, 0, 0, 1}, Abilities: []api.Ability{
			{When: api.Static, Do: api.Effect{Op: api.All, N: 2, Subs: []api.Effect{{Op: api.Pump, N: -1, Who: api.Target}}}},
		}},
		92: {Kind: api.Relic, Colour: 2, Cost: api.Cost{0, 0, 1, 0, 0, 3}, Abilities: []api.Ability{
			{When: api.Active, Cost: api.Cost{0, 0, 0, 0, 0, 1}, Tap: true, Do: api.Effect{Op: api.Lose, N: 1, Who: api.Other}},
		}},
		105: {Kind: api.Magic, Colour: 5, Fast: true, Cost: api.Cost{0, 0, 0, 0, 0, 3}, Abilities: []api.Ability{{Target: api.Cast, Do: api.Effect{Op: api.Counter, Who: api.Target}}}},
		108: {Kind: api.Beast, Colour: 5, Cost: api.Cost{0, 0, 0, 0, 0, 2}, Power: 1, Tough: 1, Abilities: []api.Ability{
			{When: api.Active, Cost: api.Cost{0, 0, 0, 0, 0, 1}, Do: api.Effect{Op: api.Untap, Who: api.Self}},
			{When: api.ManaTap, Tap: true, Do: api.Effect{Op: api.AddMana, N: 2, M: 5}},
		}},
		111: {Kind: api.Beast, Colour: 5, Fast: true, Cost: api.Cost{0, 0, 0, 0, 0, 3}, Power: 2, Tough: 3, Says: api.Flying | api.Haste, Abilities: []api.Ability{
			{When: api.Dies, Do: api.Effect{Op: api.Draw, N: 1}},
		}},
		119: {Kind: api.Beast, Colour: 5, Power: 4, Tough: 4, Says: api.Flying},
	} {
		if got := have(t, n); !card.Same(got, want) {
			t.Errorf("Card(%d) = %v, not %v", n, got, want)
		}
	}
}

// P8.1: of other numbers there is no card and no name.
func TestCardNone(t *testing.T) {
	for _, n := range far {
		if c, err := Card(n); err != api.ErrNone || !reflect.DeepEqual(c, api.Card{}) {
			t.Errorf("Card(%d) = %v, %v", n, c, err)
		}
		if name := Name(n); name != "" {
			t.Errorf("Name(%d) = %q", n, name)
		}
	}
}

// cells are the first cells of all lists of a card and of its effects, as far as their room goes, each as often as it is in one.
func cells(c api.Card) []any {
	var list []any
	var into func(subs []api.Effect)
	into = func(subs []api.Effect) {
		for i := range subs[:cap(subs)] {
			list = append(list, &subs[:cap(subs)][i])
		}
		for _, sub := range subs {
			into(sub.Subs)
		}
	}
	for i := range c.Abilities[:cap(c.Abilities)] {
		list = append(list, &c.Abilities[:cap(c.Abilities)][i])
	}
	for _, a := range c.Abilities {
		into(a.Do.Subs)
	}
	return list
}

// P8.1, rule 5: no list of a card shares memory with another one, of its own, of the same card asked again, or of another card.
func TestCardMemory(t *testing.T) {
	seen := map[any]bool{}
	count := 0
	look := func(n int, c api.Card) {
		for _, cell := range cells(c) {
			if seen[cell] {
				t.Fatalf("the card %d shares memory", n)
			}
			seen[cell] = true
			count++
		}
	}
	all := All()
	for range 2 {
		for n := range 120 {
			look(n, have(t, n))
		}
		for n, c := range all {
			look(n, c)
		}
		for n, c := range All() {
			look(n, c)
		}
	}
	if count < 6*120 {
		t.Errorf("%d cells only", count)
	}
}

// spoil changes all that a card has.
func spoil(c api.Card) {
	var into func(subs []api.Effect)
	into = func(subs []api.Effect) {
		for i := range subs {
			into(subs[i].Subs)
			subs[i] = api.Effect{Op: -1, N: -1, M: -1, Who: -1}
		}
	}
	for i := range c.Abilities {
		into(c.Abilities[i].Do.Subs)
		c.Abilities[i] = api.Ability{When: -1, Target: -1}
	}
}

// P8.1, rules 5 and 8: what is done to an answer changes no later one.
func TestCardSpoiled(t *testing.T) {
	all := All()
	for n, c := range all {
		spoil(c)
		spoil(have(t, n))
	}
	want := told(t)
	for n := range 120 {
		if !card.Same(have(t, n), want[n]) {
			t.Errorf("Card(%d) is spoiled", n)
		}
	}
	for n, c := range all {
		if !card.Same(c, want[n]) {
			t.Errorf("the card %d of All is spoiled", n)
		}
	}
}

// P8.1: All goes through all numbers, rising, with their cards, as often as it is asked, and within itself.
func TestAll(t *testing.T) {
	want := told(t)
	all := All()
	for range 3 {
		next := 0
		for n, c := range all {
			if n != next || !card.Same(c, want[n]) {
				t.Fatalf("%d, %v at place %d", n, c, next)
			}
			next++
		}
		if next != 120 {
			t.Fatalf("%d cards", next)
		}
	}
	count := 0
	for n := range all {
		for m := range all {
			count++
			if m == n {
				break
			}
		}
	}
	if count != 120*121/2 {
		t.Errorf("%d pairs", count)
	}
}

// P8.1, rule 1: All ends when it is left, wherever that is, and nothing is told behind that; it begins anew then.
func TestAllLeft(t *testing.T) {
	all := All()
	for stop := range 120 {
		calls := 0
		all(func(n int, c api.Card) bool {
			if n != calls {
				t.Fatalf("%d at place %d", n, calls)
			}
			calls++
			return n < stop
		})
		if calls != stop+1 {
			t.Errorf("left at %d, %d calls", stop, calls)
		}
	}
}

// P8.1: the names of all cards, and the numbers of all names.
func TestName(t *testing.T) {
	for n, want := range called(t) {
		if got := Name(n); got != want {
			t.Errorf("Name(%d) = %q, not %q", n, got, want)
		}
		if got, ok := Number(want); got != n || !ok {
			t.Errorf("Number(%q) = %d, %v", want, got, ok)
		}
	}
	for n, want := range map[int]string{0: "source-0", 9: "source-9", 10: "beast-10", 49: "beast-49", 50: "magic-50", 65: "magic-65", 79: "magic-79", 80: "relic-80", 99: "relic-99", 106: "magic-106", 107: "relic-107", 108: "beast-108", 109: "magic-109", 111: "beast-111", 112: "token-112", 119: "token-119"} {
		if got := Name(n); got != want {
			t.Errorf("Name(%d) = %q, not %q", n, got, want)
		}
	}
}

// checkNumber holds a Number against the names that there are.
func checkNumber(t *testing.T, names map[string]int, text string) {
	t.Helper()
	want, has := names[text]
	if got, ok := Number(text); got != want || ok != has {
		t.Errorf("Number(%q) = %d, %v, not %d, %v", text, got, ok, want, has)
	}
}

// numbered are the names of all cards, with their numbers.
func numbered(t *testing.T) map[string]int {
	t.Helper()
	names := map[string]int{}
	for n, name := range called(t) {
		names[name] = n
	}
	return names
}

// P8.1: each word with each number, in figures of all sorts: just the names are some.
func TestNumberWords(t *testing.T) {
	names := numbered(t)
	var figures []string
	for n := -130; n < 1000; n++ {
		text := strconv.Itoa(n)
		figures = append(figures, text, "+"+text, "-"+text, "0"+text, "00"+text, " "+text, text+" ", text+".0", text+"e0", text+"-", text+"\n", text+"\x00", text+"-"+text)
	}
	for _, n := range far {
		figures = append(figures, strconv.Itoa(n))
	}
	figures = append(figures, "", "+", "-", "0x41", "0b1", "0o101", "6_5", "18446744073709551616", "18446744073709551681", "-18446744073709551551", "340282366920938463463374607431768211521", "\u0666\u0665", "\uff16\uff15", strings.Repeat("0", 1000)+"65", strings.Repeat("6", 100000))
	for _, text := range figures {
		checkNumber(t, names, text)
		for _, word := range []string{"source-", "beast-", "magic-", "relic-", "token-", "card-", "source", "beast", "magic", "relic", "token", "Magic-", "MAGIC-", "magic--", "magic- ", "magic -", " magic-", "magic_", "magic\u2010", "magic-magic-", "magics-", "agic-", "\x00magic-", "-", "--"} {
			checkNumber(t, names, word+text)
		}
	}
}

// P8.1: each name with one byte changed, more, or less: just the names are some.
func TestNumberBytes(t *testing.T) {
	names := numbered(t)
	found := 0
	for name := range names {
		for at := range len(name) + 1 {
			if at < len(name) {
				checkNumber(t, names, name[:at]+name[at+1:])
			}
			checkNumber(t, names, name[at:])
			checkNumber(t, names, name[:at])
			for b := range 256 {
				one := string([]byte{byte(b)})
				texts := []string{name[:at] + one + name[at:]}
				if at < len(name) {
					texts = append(texts, name[:at]+one+name[at+1:])
				}
				for _, text := range texts {
					checkNumber(t, names, text)
					if _, ok := names[text]; ok {
						found++
					}
				}
			}
		}
	}
	if found < 1000 {
		t.Errorf("%d names only", found)
	}
}

// checkDeck holds a Deck against what it is to answer.
func checkDeck(t *testing.T, list []int, want error) {
	t.Helper()
	if got := Deck(list); got != want {
		t.Errorf("Deck(%v) = %v, not %v", list, got, want)
	}
}

// times is a list of a number, so often.
func times(count, n int) []int { return slices.Repeat([]int{n}, count) }

// legal are as many numbers of cards that may be in one deck together, from 5 on.
func legal(count int) []int {
	var list []int
	for i := range count {
		list = append(list, 5+i/4)
	}
	return list
}

// P8.1: decks about the limits, and with one wrong thing.
func TestDeck(t *testing.T) {
	checkDeck(t, nil, nil)
	checkDeck(t, []int{}, nil)
	checkDeck(t, legal(40), nil)
	checkDeck(t, legal(99), nil)
	checkDeck(t, legal(100), nil)
	checkDeck(t, legal(101), api.ErrMany)
	checkDeck(t, times(100, 0), nil)
	checkDeck(t, times(101, 0), api.ErrMany)
	checkDeck(t, times(1000000, 0), api.ErrMany)
	checkDeck(t, slices.Concat(times(20, 0), times(20, 1), times(20, 2), times(20, 3), times(20, 4)), nil)
	checkDeck(t, slices.Concat(times(84, 4), times(4, 5), times(4, 111), times(4, 50), times(4, 6)), nil)
	checkDeck(t, slices.Concat(times(84, 4), times(4, 5), times(3, 111), times(5, 50), times(4, 6)), api.ErrTwice)
}

// P8.1: each number in a deck of its own, so often.
func TestDeckCopies(t *testing.T) {
	numbers := slices.Clone(far)
	for n := range 120 {
		numbers = append(numbers, n)
	}
	for _, n := range numbers {
		for count := 1; count <= 102; count++ {
			want := error(nil)
			switch {
			case count > 100:
				want = api.ErrMany
			case n < 0 || n > 111:
				want = api.ErrNone
			case n >= 5 && count > 4:
				want = api.ErrTwice
			}
			checkDeck(t, times(count, n), want)
		}
	}
}

// P8.1: of several errors the one that is named first, wherever the things stand that are wrong.
func TestDeckFirst(t *testing.T) {
	for _, wrong := range []int{-1, 112, 119, 120, math.MinInt, math.MaxInt, 1<<32 + 7} {
		for at := range 101 {
			checkDeck(t, slices.Insert(times(100, 7), at, wrong), api.ErrMany)
			checkDeck(t, slices.Insert(times(99, 7), min(at, 99), wrong), api.ErrNone)
			checkDeck(t, slices.Insert(times(99, 3), min(at, 99), wrong), api.ErrNone)
		}
	}
	checkDeck(t, times(100, 7), api.ErrTwice)
	// Five of one, apart from one another.
	for first := range 60 {
		list := append(legal(60), 111, 111, 111, 111)
		list[first] = 111
		checkDeck(t, list, api.ErrTwice)
		list[first] = 110
		checkDeck(t, list, nil)
	}
}

// deckError is what Deck is to answer, reckoned from the sorted list.
func deckError(list []int) error {
	sorted := slices.Sorted(slices.Values(list))
	if len(sorted) > 100 {
		return api.ErrMany
	}
	if len(sorted) > 0 && (sorted[0] < 0 || sorted[len(sorted)-1] > 111) {
		return api.ErrNone
	}
	for i, n := range sorted {
		if n > 4 && i >= 4 && sorted[i-4] == n {
			return api.ErrTwice
		}
	}
	return nil
}

// P8.1, rules 5 and 8: decks drawn at random, shuffled; the same deck has the same answer, and stays as it is, with its spare room.
func TestDeckDrawn(t *testing.T) {
	r := rand.New(rand.NewSource(8))
	counts := map[error]int{}
	for range 20000 {
		list := make([]int, 0, 120)
		sorts := 8 + r.Intn(112)
		for range r.Intn(103) {
			list = append(list, r.Intn(sorts)-r.Intn(40)/39)
		}
		want := deckError(list)
		counts[want]++
		room := slices.Clone(list[:cap(list)])
		checkDeck(t, list, want)
		checkDeck(t, list, want)
		if !slices.Equal(list[:cap(list)], room) {
			t.Fatalf("Deck changed %v", list)
		}
		r.Shuffle(len(list), func(i, j int) { list[i], list[j] = list[j], list[i] })
		checkDeck(t, list, want)
	}
	for _, err := range []error{nil, api.ErrMany, api.ErrNone, api.ErrTwice} {
		if counts[err] < 50 {
			t.Errorf("%v came %d times only", err, counts[err])
		}
	}
}
