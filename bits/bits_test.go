package bits

import (
	"math"
	"math/big"
	"testing"

	"mulligan/api"
)

// words are sets and words that the tests go through: empty, full, single bits, both ends, patterns.
var words = []uint64{
	0, 1, 2, 3, 1 << 3, 1 << 31, 1 << 32, 1 << 62, 1 << 63, 1<<63 | 1, 1<<63 | 1<<3,
	math.MaxUint32, math.MaxInt64, math.MaxUint64, math.MaxUint64 - 1,
	0x5555555555555555, 0xaaaaaaaaaaaaaaaa, 0x0123456789abcdef, 0xfedcba9876543210,
}

// places are numbers about each edge: those of a set, those of a width, those of an int.
var places = []int{
	math.MinInt, math.MinInt + 1, math.MinInt + 63, math.MinInt + 64, math.MinInt32, -65, -64, -63, -2, -1,
	0, 1, 2, 3, 4, 7, 8, 31, 32, 33, 61, 62, 63, 64, 65, 66, 127, 128, 129, 256, math.MaxInt32, 1 << 32, 1<<32 + 3,
	math.MaxInt - 64, math.MaxInt - 63, math.MaxInt - 1, math.MaxInt,
}

// row is the bits of a word one by one, by halving, so that no shift of the package is asked.
func row(x uint64) [64]bool {
	var r [64]bool
	for i := range r {
		r[i] = x%2 == 1
		x /= 2
	}
	return r
}

// worth is the word of a row.
func worth(r [64]bool) uint64 {
	var x uint64
	for i := len(r) - 1; i >= 0; i-- {
		x *= 2
		if r[i] {
			x++
		}
	}
	return x
}

// P1.1: Has, With and Without, in a set and outside of it.
func TestOneNumber(t *testing.T) {
	for _, set := range words {
		for _, i := range places {
			in, with, without := row(set), row(set), row(set)
			has := false
			if i >= 0 && i <= 63 {
				has, with[i], without[i] = in[i], true, false
			}
			if got := Has(set, i); got != has {
				t.Errorf("Has(%#x, %d) = %v", set, i, got)
			}
			if got := With(set, i); got != worth(with) {
				t.Errorf("With(%#x, %d) = %#x", set, i, got)
			}
			if got := Without(set, i); got != worth(without) {
				t.Errorf("Without(%#x, %d) = %#x", set, i, got)
			}
		}
	}
}

// P1.1: Has, With and Without at each of the 64 numbers.
func TestEachNumber(t *testing.T) {
	for i := range 64 {
		one := uint64(math.Pow(2, float64(i)))
		if With(0, i) != one || Without(math.MaxUint64, i) != math.MaxUint64-one {
			t.Error(i, With(0, i), Without(math.MaxUint64, i))
		}
		for j := range 64 {
			if Has(one, j) != (i == j) {
				t.Error(i, j, Has(one, j))
			}
		}
	}
}

// P1.1: Count and Least.
func TestCountAndLeast(t *testing.T) {
	for _, set := range words {
		count, least := 0, -1
		for i, in := range row(set) {
			if in {
				count++
			}
			if in && least < 0 {
				least = i
			}
		}
		if Count(set) != count || Least(set) != least {
			t.Errorf("%#x: %d %d, not %d %d", set, Count(set), Least(set), count, least)
		}
	}
	for i := range 64 {
		if Least(math.MaxUint64<<i) != i || Count(math.MaxUint64<<i) != 64-i {
			t.Error(i)
		}
	}
}

// P1.1: Span, with ends of all sorts, in either order.
func TestSpan(t *testing.T) {
	for _, from := range places {
		for _, to := range places {
			var r [64]bool
			for i := range r {
				r[i] = i >= from && i < to
			}
			if got := Span(from, to); got != worth(r) {
				t.Errorf("Span(%d, %d) = %#x", from, to, got)
			}
		}
	}
	if Span(62, 70) != With(With(0, 62), 63) {
		t.Error("the chapter's example")
	}
}

// isThere tells whether there is such a part, with a sum that can't wrap around.
func isThere(at, width int) bool {
	sum := new(big.Int).Add(big.NewInt(int64(at)), big.NewInt(int64(width)))
	return at >= 0 && at <= 63 && width >= 1 && width <= 64 && sum.Cmp(big.NewInt(64)) <= 0
}

// P1.1: Part, at parts that there are and parts that there aren't.
func TestPart(t *testing.T) {
	for _, x := range words {
		for _, at := range places {
			for _, width := range places {
				var part [64]bool
				if isThere(at, width) {
					bits := row(x)
					copy(part[:], bits[at:at+width])
				}
				if got := Part(x, at, width); got != worth(part) {
					t.Errorf("Part(%#x, %d, %d) = %#x", x, at, width, got)
				}
			}
		}
	}
}

// P1.1 and P1.2: what is put is there, nothing else is changed, and a part of too many bits is refused.
func TestPut(t *testing.T) {
	for _, x := range words {
		for at := range 64 {
			for width := 1; width <= 64-at; width++ {
				for _, part := range words {
					checkPut(t, x, at, width, part)
				}
			}
		}
	}
}

// checkPut holds a Put at a part that there is against the rows of its words.
func checkPut(t *testing.T, x uint64, at, width int, part uint64) {
	t.Helper()
	got, err := Put(x, at, width, part)
	piece, want := row(part), row(x)
	for _, bit := range piece[width:] {
		if !bit {
			continue
		}
		if got != 0 || err != api.ErrForm {
			t.Fatalf("Put(%#x, %d, %d, %#x) = %#x, %v", x, at, width, part, got, err)
		}
		return
	}
	copy(want[at:], piece[:width])
	if got != worth(want) || err != nil {
		t.Fatalf("Put(%#x, %d, %d, %#x) = %#x, %v", x, at, width, part, got, err)
	}
	if Part(got, at, width) != part {
		t.Fatalf("Put(%#x, %d, %d, %#x): there is %#x", x, at, width, part, Part(got, at, width))
	}
	for i, bit := range row(x) {
		if (i < at || i >= at+width) && Has(got, i) != bit {
			t.Fatalf("Put(%#x, %d, %d, %#x): bit %d is changed", x, at, width, part, i)
		}
	}
}

// P1.1: a Put where there is no such part: ErrRange, even where the part has too many bits as well, and no word beside it.
func TestPutNowhere(t *testing.T) {
	for _, at := range places {
		for _, width := range places {
			if isThere(at, width) {
				continue
			}
			for _, part := range []uint64{0, 1, math.MaxUint64} {
				if got, err := Put(0xff, at, width, part); got != 0 || err != api.ErrRange {
					t.Errorf("Put(0xff, %d, %d, %#x) = %#x, %v", at, width, part, got, err)
				}
			}
		}
	}
}

// P1.1: the least part that has too many bits, and the greatest that hasn't.
func TestPutEdge(t *testing.T) {
	for width := 1; width < 64; width++ {
		most := Span(0, width)
		if got, err := Put(0, 0, width, most); got != most || err != nil {
			t.Error(width, got, err)
		}
		if got, err := Put(math.MaxUint64, 0, width, most+1); got != 0 || err != api.ErrForm {
			t.Error(width, got, err)
		}
	}
	if got, err := Put(7, 0, 64, math.MaxUint64); got != math.MaxUint64 || err != nil {
		t.Error(got, err)
	}
}

// narrowed is the number of a width by counting: the rest by 2^width, less 2^width where it is beyond the greatest one.
func narrowed(n, width int) *big.Int {
	all := new(big.Int).Exp(big.NewInt(2), big.NewInt(int64(width)), nil)
	half := new(big.Int).Exp(big.NewInt(2), big.NewInt(int64(width-1)), nil)
	rest := new(big.Int).Mod(big.NewInt(int64(n)), all)
	if rest.Cmp(half) >= 0 {
		rest.Sub(rest, all)
	}
	return rest
}

// numbers are those about the edges of each width, and some that are far from any.
func numbers() []int {
	list := append([]int{200, -200, 12345678901, -12345678901}, places...)
	for i := range 63 {
		list = append(list, 1<<i-1, 1<<i, 1<<i+1, -1<<i-1, -1<<i, -1<<i+1)
	}
	return list
}

// P1.1: Narrow and Fits at each width, about the least and the greatest number of it.
func TestNarrowAndFits(t *testing.T) {
	for _, n := range numbers() {
		for width := 1; width <= 64; width++ {
			want := narrowed(n, width)
			if got := Narrow(n, width); big.NewInt(int64(got)).Cmp(want) != 0 {
				t.Errorf("Narrow(%d, %d) = %d", n, width, got)
			}
			if got := Fits(n, width); got != (big.NewInt(int64(n)).Cmp(want) == 0) {
				t.Errorf("Fits(%d, %d) = %v", n, width, got)
			}
		}
	}
	if Narrow(200, 8) != -56 {
		t.Error("the chapter's example")
	}
}

// P1.1: Narrow and Fits where there is no such width.
func TestNoWidth(t *testing.T) {
	for _, n := range numbers() {
		for _, width := range places {
			if width >= 1 && width <= 64 {
				continue
			}
			if Narrow(n, width) != n || Fits(n, width) {
				t.Errorf("%d of width %d: %d %v", n, width, Narrow(n, width), Fits(n, width))
			}
		}
	}
}
