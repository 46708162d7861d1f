package mana

import (
	"fmt"
	"math"
	"regexp"
	"strings"
	"testing"

	"mulligan/api"
)

// right are the texts that the chapter calls right, but for the empty one, by a form of their own.
var right = regexp.MustCompile(`^(0|([1-9][0-9]{0,2}|1000)?W{0,20}U{0,20}B{0,20}R{0,20}G{0,20})$`)

// far are numbers that no cost has: just outside, and those that are wrapped around or cut off if they are reckoned with.
var far = []int{
	-1, -2, -1000, -1001, 1001, 1002, 1024, 2000, 1 << 16, 1<<16 + 1, 1 << 31, 1 << 32, 1<<32 + 1, -1 << 32, 1 << 62, math.MaxInt - 1,
	math.MaxInt, math.MinInt, math.MinInt + 1,
}

// near are numbers that a cost may have, the ends among them.
var near = []int{0, 1, 2, 9, 10, 19, 20, 21, 22, 99, 100, 255, 256, 500, 998, 999, 1000}

// with is a cost with n in a place.
func with(c api.Cost, place, n int) api.Cost {
	c[place] = n
	return c
}

// told is a cost's text by the chapter's words, figure by figure and letter by letter.
func told(c api.Cost) string {
	if c == (api.Cost{}) {
		return "0"
	}
	var b []byte
	for unit, begun := 1000, false; unit > 0; unit /= 10 {
		figure := c[5] / unit % 10
		begun = begun || figure != 0
		if begun {
			b = append(b, "0123456789"[figure])
		}
	}
	for place, letter := range []byte{'W', 'U', 'B', 'R', 'G'} {
		for range c[place] {
			b = append(b, letter)
		}
	}
	return string(b)
}

// counted is the cost of a text that is right, by counting.
func counted(s string) api.Cost {
	var c api.Cost
	for place, letter := range []string{"W", "U", "B", "R", "G"} {
		c[place] = strings.Count(s, letter)
	}
	fmt.Sscan(s, &c[5])
	return c
}

// P4.1: Good at each number of a place, alone, beside full places, and beside a wrong one.
func TestGood(t *testing.T) {
	full := api.Cost{1000, 1000, 1000, 1000, 1000, 1000}
	for _, beside := range []api.Cost{{}, full, {0, 1000, 0, 1000, 0, 1000}} {
		for place := range 6 {
			for n := -100; n <= 1100; n++ {
				if got := Good(with(beside, place, n)); got != (n >= 0 && n <= 1000) {
					t.Errorf("place %d is %d beside %v: Good is %v", place, n, beside, got)
				}
			}
			for _, n := range far {
				if Good(with(beside, place, n)) {
					t.Errorf("place %d is %d beside %v: Good", place, n, beside)
				}
				// Two that are wrong, which make up for each other.
				if Good(with(with(beside, place, n), (place+1)%6, -n)) {
					t.Errorf("place %d is %d, the next one %d: Good", place, n, -n)
				}
			}
		}
	}
}

// P4.1: Total adds each place once, of whatever numbers, and wraps around.
func TestTotal(t *testing.T) {
	for _, c := range []struct {
		c    api.Cost
		want int
	}{
		{api.Cost{}, 0},
		{api.Cost{1, 10, 100, 1000, 10000, 100000}, 111111},
		{api.Cost{2, 0, 0, 0, 0, 2}, 4},
		{api.Cost{1000, 1000, 1000, 1000, 1000, 1000}, 6000},
		{api.Cost{-1, -10, -100, -1000, -10000, -100000}, -111111},
		{api.Cost{5, -7, 1001, 0, -1001, 2}, 0},
		{api.Cost{math.MaxInt, 1}, math.MinInt},
		{api.Cost{math.MinInt, 0, 0, 0, 0, -1}, math.MaxInt},
		{api.Cost{math.MaxInt, math.MaxInt, 0, 0, 2}, 0},
		{api.Cost{math.MinInt, math.MinInt, 3}, 3},
	} {
		if got := Total(c.c); got != c.want {
			t.Errorf("Total(%v) = %d, not %d", c.c, got, c.want)
		}
	}
	for place := range 6 {
		for _, n := range append(near, far...) {
			if got := Total(with(api.Cost{}, place, n)); got != n {
				t.Errorf("place %d is %d: Total is %d", place, n, got)
			}
		}
	}
}

// P4.1: Add at each place, from each number about the ends, so much as goes and a little more.
func TestAdd(t *testing.T) {
	pool := api.Cost{3, 1, 4, 15, 9, 26}
	for place := range 6 {
		for _, has := range near {
			for n := -2; n <= 1002; n++ {
				from := with(pool, place, has)
				got, err := Add(from, place, n)
				if n < 0 || has+n > 1000 {
					if got != (api.Cost{}) || err != api.ErrRange {
						t.Fatalf("Add(%v, %d, %d) = %v, %v", from, place, n, got, err)
					}
				} else if got != with(from, place, has+n) || err != nil {
					t.Fatalf("Add(%v, %d, %d) = %v, %v", from, place, n, got, err)
				}
			}
			for _, n := range far {
				if got, err := Add(with(pool, place, has), place, n); got != (api.Cost{}) || err != api.ErrRange {
					t.Errorf("%d with %d more: %v, %v", has, n, got, err)
				}
			}
		}
	}
	full := api.Cost{1000, 1000, 1000, 1000, 1000, 1000}
	for place := range 6 {
		if got, err := Add(full, place, 0); got != full || err != nil {
			t.Error(place, got, err)
		}
		if got, err := Add(with(full, place, 0), place, 1000); got != full || err != nil {
			t.Error(place, got, err)
		}
	}
}

// P4.1: Add where there is no such place: ErrKind, whatever n is.
func TestAddKind(t *testing.T) {
	for _, place := range []int{-1, -2, -6, 6, 7, 12, 1 << 32, 1<<32 + 1, math.MaxInt, math.MinInt} {
		for _, n := range append(near, far...) {
			for _, pool := range []api.Cost{{}, {1, 2, 3, 4, 5, 6}, {1000, 1000, 1000, 1000, 1000, 1000}} {
				if got, err := Add(pool, place, n); got != (api.Cost{}) || err != api.ErrKind {
					t.Errorf("Add(%v, %d, %d) = %v, %v", pool, place, n, got, err)
				}
			}
		}
	}
}

// P4.1: Add to what is no pool: ErrForm, ahead of all else, even where another place is meant or nothing is added.
func TestAddForm(t *testing.T) {
	for wrong := range 6 {
		for _, has := range far {
			pool := with(api.Cost{1, 2, 3, 4, 5, 6}, wrong, has)
			for _, place := range []int{-1, 0, 1, 2, 3, 4, 5, 6} {
				for _, n := range []int{-1, 0, 1, 2, 1000, 1001, math.MaxInt, math.MinInt} {
					if got, err := Add(pool, place, n); got != (api.Cost{}) || err != api.ErrForm {
						t.Errorf("Add(%v, %d, %d) = %v, %v", pool, place, n, got, err)
					}
				}
			}
		}
	}
}

// byHand are costs and their texts, written out by hand.
var byHand = []struct {
	text string
	cost api.Cost
}{
	{"0", api.Cost{}},
	{"2WW", api.Cost{2, 0, 0, 0, 0, 2}},
	{"W", api.Cost{1}},
	{"U", api.Cost{0, 1}},
	{"B", api.Cost{0, 0, 1}},
	{"R", api.Cost{0, 0, 0, 1}},
	{"G", api.Cost{0, 0, 0, 0, 1}},
	{"1", api.Cost{5: 1}},
	{"10", api.Cost{5: 10}},
	{"100", api.Cost{5: 100}},
	{"1000", api.Cost{5: 1000}},
	{"1000G", api.Cost{4: 1, 5: 1000}},
	{"305UGGG", api.Cost{0, 1, 0, 0, 3, 305}},
	{"WUBRG", api.Cost{1, 1, 1, 1, 1, 0}},
	{"WWUUUBBBBRRRRRGGGGGG", api.Cost{2, 3, 4, 5, 6, 0}},
	{"7WBBG", api.Cost{1, 0, 2, 0, 1, 7}},
	{"20RRRRRRRRRRRRRRRRRRRR", api.Cost{3: 20, 5: 20}},
}

// P4.1 and P4.2: costs and texts that are written out by hand.
func TestByHand(t *testing.T) {
	for _, c := range byHand {
		if got, err := Text(c.cost); got != c.text || err != nil {
			t.Errorf("Text(%v) = %q, %v, not %q", c.cost, got, err, c.text)
		}
		if got, err := Parse(c.text); got != c.cost || err != nil {
			t.Errorf("Parse(%q) = %v, %v, not %v", c.text, got, err, c.cost)
		}
	}
}

// P4.1: Text of what is no cost: ErrForm, even where a colour has more than 20 besides.
func TestTextForm(t *testing.T) {
	for place := range 6 {
		for _, n := range far {
			for _, beside := range []api.Cost{{}, {1, 2, 3, 4, 5, 6}, {21, 21, 21, 21, 21, 21}, {1000, 1000, 1000, 1000, 1000, 1000}} {
				c := with(beside, place, n)
				if got, err := Text(c); got != "" || err != api.ErrForm {
					t.Errorf("Text(%v) = %q, %v", c, got, err)
				}
			}
		}
	}
}

// P4.1: Text at each number of a place: of a colour ErrLong above 20, of whatever kind never.
func TestTextOfOnePlace(t *testing.T) {
	for _, beside := range []api.Cost{{}, {1, 0, 2, 0, 3, 0}, {20, 20, 20, 20, 20, 1000}, {0, 0, 0, 0, 0, 20}} {
		for place := range 6 {
			for n := range 1001 {
				c := with(beside, place, n)
				got, err := Text(c)
				if place < 5 && n > 20 {
					if got != "" || err != api.ErrLong {
						t.Fatalf("Text(%v) = %q, %v", c, got, err)
					}
				} else if got != told(c) || err != nil {
					t.Fatalf("Text(%v) = %q, %v, not %q", c, got, err, told(c))
				}
			}
		}
	}
}

// P4.2: costs that have a text are told by it: it leads back, and no other one has it.
func TestTextTells(t *testing.T) {
	numbers := [6][]int{
		{0, 1, 2, 20}, {0, 1, 3, 20}, {0, 1, 19, 20}, {0, 1, 2, 20}, {0, 1, 10, 20}, {0, 1, 2, 9, 10, 11, 20, 99, 100, 101, 110, 999, 1000},
	}
	seen := map[string]api.Cost{}
	var c api.Cost
	var each func(place int)
	each = func(place int) {
		if place < 6 {
			for _, n := range numbers[place] {
				c[place] = n
				each(place + 1)
			}
			return
		}
		s, err := Text(c)
		if s != told(c) || err != nil {
			t.Fatalf("Text(%v) = %q, %v", c, s, err)
		}
		if other, ok := seen[s]; ok {
			t.Fatalf("%v and %v have the text %q", other, c, s)
		}
		seen[s] = c
		if again, err := Parse(s); again != c || err != nil {
			t.Fatalf("Parse(%q) = %v, %v, not %v", s, again, err, c)
		}
	}
	each(0)
}

// checkParse holds a Parse against the form of the right texts.
func checkParse(t *testing.T, s string) {
	t.Helper()
	got, err := Parse(s)
	if s == "" || !right.MatchString(s) {
		if got != (api.Cost{}) || err != api.ErrForm {
			t.Errorf("Parse(%q) = %v, %v", s, got, err)
		}
	} else if got != counted(s) || err != nil {
		t.Errorf("Parse(%q) = %v, %v, not %v", s, got, err, counted(s))
	}
}

// P4.1 and P4.2: Parse of each text of few runes, of letters, figures and others.
func TestParseShort(t *testing.T) {
	var each func(s string, runes []string, left int)
	each = func(s string, runes []string, left int) {
		checkParse(t, s)
		if left == 0 {
			return
		}
		for _, r := range runes {
			each(s+r, runes, left-1)
		}
	}
	each("", []string{"W", "U", "B", "R", "G", "0", "1"}, 6)
	each("", []string{"0", "1", "9", "G"}, 7)
	each("", []string{"W", "U", "B", "R", "G", "0", "1", "5", "9", "w", " ", "-", "+", "\x00", "\xff", "\u00e9", "\uff11", "\uff37", "\U0001f600", "X"}, 4)
}

// P4.1: Parse of each byte and each rune alone, and beside what is right.
func TestParseEachRune(t *testing.T) {
	for n := range 256 {
		s := string([]byte{byte(n)})
		for _, c := range []string{s, "1" + s, s + "W", "1" + s + "W", "W" + s + "G", "2WW" + s, s + "0"} {
			checkParse(t, c)
		}
	}
	for r := range rune(0x11000) {
		checkParse(t, string(r))
		checkParse(t, "1"+string(r)+"W")
	}
	// Runes whose lowest bits are those of a letter or a figure.
	for _, low := range "WUBRG0123456789" {
		for _, high := range []rune{0x100, 0x400, 0x3000, 0x10000, 0x100000} {
			checkParse(t, string(high+low))
			checkParse(t, "5"+string(high+low))
		}
	}
}

// P4.1: Parse of each number, as its figures and with zeros ahead, about the greatest one and far above.
func TestParseFigures(t *testing.T) {
	for n := range 12000 {
		for _, form := range []string{"%d", "%dW", "%dGG", "0%d", "%02d", "%03d", "%04d", "%05d", "%d ", "-%d", "+%d", "W%d", "%d%[1]d", "%dW%[1]d", "%x", "0x%x"} {
			checkParse(t, fmt.Sprintf(form, n))
		}
	}
	// Numbers that are small again when they are wrapped around, or cut off to fewer bits.
	for _, s := range []string{
		"65536", "65537", "4294967296", "4294967297", "4294967301", "9223372036854775807", "9223372036854775808", "9223372036854775809",
		"18446744073709551615", "18446744073709551616", "18446744073709551617", "18446744073709551621", "36893488147419103233",
		"340282366920938463463374607431768211457", "18446744073709551616WW", "1e3", "1_000", "1,000", "1.0", "0.5", "1000.0",
	} {
		checkParse(t, s)
	}
}

// P4.1: Parse of each letter about 20 times, alone, with others, and with its row broken by another one.
func TestParseLetters(t *testing.T) {
	letters := []string{"W", "U", "B", "R", "G"}
	for i, letter := range letters {
		for n := range 60 {
			row := strings.Repeat(letter, n)
			for _, s := range []string{row, "3" + row, "1000" + row, row + "3", "0" + row, row + "0", strings.ToLower(row)} {
				checkParse(t, s)
			}
			for j, other := range letters {
				for m := range 23 {
					checkParse(t, row+strings.Repeat(other, m))
					if i != j {
						checkParse(t, row+strings.Repeat(other, m)+letter)
					}
				}
			}
		}
		for _, n := range []int{255, 256, 257, 276, 999, 1000, 1001, 1002, 65536, 65537, 65556, 200000} {
			checkParse(t, strings.Repeat(letter, n))
		}
	}
	all := "1000"
	for _, letter := range letters {
		all += strings.Repeat(letter, 20)
	}
	checkParse(t, all)
	checkParse(t, all+"G")
}

// P4.1: Parse of long texts, of figures, letters and others.
func TestParseLong(t *testing.T) {
	for _, s := range []string{"0", "1", "9", "W", "WUBRG", "G1", "\u00e9", "\xff", " "} {
		checkParse(t, strings.Repeat(s, 1<<20))
		checkParse(t, "2WW"+strings.Repeat(s, 1<<16))
	}
}

// P4.1: Letter at each place, and where there is none.
func TestLetter(t *testing.T) {
	for place := -1000; place <= 1000; place++ {
		var want byte
		if place >= 0 && place < 5 {
			want = "WUBRG"[place]
		}
		if got := Letter(place); got != want {
			t.Errorf("Letter(%d) = %d, not %d", place, got, want)
		}
	}
	for _, place := range []int{1 << 8, 1 << 32, 1<<32 + 1, -1 << 32, math.MaxInt, math.MinInt} {
		if got := Letter(place); got != 0 {
			t.Errorf("Letter(%d) = %d", place, got)
		}
	}
}
