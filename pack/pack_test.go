package pack

import (
	"math"
	"testing"

	"mulligan/api"
)

// heads are the fields of a head by the chapter's words: the number of the field, the worth of its lowest bit, and how many
// numbers its bits can tell.
var heads = []struct {
	name               string
	field, worth, many int
}{
	{"FOwner", 1, 1, 2},
	{"FControl", 2, 2, 2},
	{"FZone", 3, 4, 16},
	{"FTapped", 4, 64, 2},
	{"FSick", 5, 128, 2},
	{"FAttack", 11, 256, 2},
	{"FKind", 13, 512, 4},
	{"FKnows", 17, 2048, 4},
	{"FWords", 10, 8192, 256},
}

// rests are the numbers of the rest's fields, in order: FCard, FDamage, FCounters, FPower, FTough, FBlock, FAbility, FSource,
// FTarget.
var rests = [9]int{0, 6, 7, 8, 9, 12, 14, 15, 16}

// far are numbers of the rest: about 0, those that a narrower integer would change, and the ends of an int.
var far = []int{
	0, 1, -1, 2, -2, 119, 127, 128, 255, 256, 400, math.MaxInt16, math.MaxInt16 + 1, math.MinInt16, math.MinInt16 - 1,
	math.MaxInt32, math.MaxInt32 + 1, math.MinInt32, math.MinInt32 - 1, 1 << 30, -1 << 30, 1 << 32, 1 << 53, 1<<53 + 1,
	math.MaxInt, math.MaxInt - 1, math.MinInt, math.MinInt + 1,
}

// filled is an object that has n in each field of the rest, and nothing in those of the head.
func filled(n int) api.Object {
	var o api.Object
	for _, field := range rests {
		o[field] = n
	}
	return o
}

// reckoned is an object by its head and its rest, by dividing; false, if the head is none.
func reckoned(head uint32, rest [9]int) (api.Object, bool) {
	if head >= 1<<21 {
		return api.Object{}, false
	}
	var o api.Object
	for _, h := range heads {
		o[h.field] = int(head) / h.worth % h.many
	}
	for i, field := range rests {
		o[field] = rest[i]
	}
	return o, true
}

// TestFields looks whether the tables of this test have each field once, and whether the parts of a head stand side by side.
func TestFields(t *testing.T) {
	var seen [api.Fields]int
	worth := 1
	for _, h := range heads {
		seen[h.field]++
		if h.worth != worth {
			t.Error(h.name, h.worth, worth)
		}
		worth *= h.many
	}
	for _, field := range rests {
		seen[field]++
	}
	for field, n := range seen {
		if n != 1 {
			t.Error(field, n)
		}
	}
	if worth != 1<<21 {
		t.Error(worth)
	}
}

// P3.1: Head of each number of each field, which stands where the chapter says, whatever the rest is.
func TestHeadOfOneField(t *testing.T) {
	for _, h := range heads {
		for n := range h.many {
			for _, m := range far {
				o := filled(m)
				o[h.field] = n
				if got, err := Head(o); got != uint32(n*h.worth) || err != nil {
					t.Errorf("%s %d, the rest %d: Head is %d, %v", h.name, n, m, got, err)
				}
			}
		}
	}
}

// P3.1: the heads that the chapter tells, and those that are written out by hand.
func TestHeadByHand(t *testing.T) {
	all := api.Object{
		api.FOwner: 1, api.FControl: 1, api.FZone: 15, api.FTapped: 1, api.FSick: 1, api.FAttack: 1, api.FKind: 3, api.FKnows: 3,
		api.FWords: 255,
	}
	for _, c := range []struct {
		o    api.Object
		want uint32
	}{
		{api.Object{}, 0},
		{api.Object{api.FKind: 2}, 1024},
		{all, 0x1fffff},
		{api.Object{api.FOwner: 1, api.FControl: 0, api.FZone: api.Gone, api.FKnows: 3}, 0x1829},
		{api.Object{api.FControl: 1, api.FZone: api.Field, api.FTapped: 1, api.FAttack: 1, api.FKind: api.IsToken, api.FWords: 0xa5}, 0x14a362},
	} {
		if got, err := Head(c.o); got != c.want || err != nil {
			t.Errorf("Head(%v) = %#x, %v, not %#x", c.o, got, err, c.want)
		}
		if got, err := Object(c.want, [9]int{}); got != c.o || err != nil {
			t.Errorf("Object(%#x) = %v, %v", c.want, got, err)
		}
	}
}

// P3.1: Head where a field is just above what its bits can tell, just below 0, or far off, alone or beside others: ErrRange, and
// no head beside it.
func TestHeadRange(t *testing.T) {
	for _, h := range heads {
		wrong := []int{
			-1, -2, -h.many, -h.many - 1, -h.many + 1, h.many, h.many + 1, 2 * h.many, 256, 1 << 16, 1 << 21, 1 << 31, 1 << 32, 1<<32 + 1,
			-1 << 32, 1 << 62, math.MaxInt, math.MinInt, math.MinInt + 1,
		}
		for _, n := range wrong {
			for _, beside := range []uint32{0, 1, 0x1fffff, 0x155555, 0x0aaaaa} {
				o, _ := reckoned(beside, [9]int{1, 2, 3, 4, 5, 6, 7, 8, 9})
				o[h.field] = n
				if got, err := Head(o); got != 0 || err != api.ErrRange {
					t.Errorf("%s %d beside %#x: Head is %d, %v", h.name, n, beside, got, err)
				}
			}
		}
	}
}

// P3.1: Head where two fields are wrong: ErrRange.
func TestHeadRangeTwice(t *testing.T) {
	for _, h := range heads {
		for _, k := range heads {
			var o api.Object
			o[h.field], o[k.field] = -1, k.many
			if got, err := Head(o); got != 0 || err != api.ErrRange {
				t.Errorf("%s and %s: Head is %d, %v", h.name, k.name, got, err)
			}
		}
	}
}

// P3.1: Rest is the other fields in their order, of any worth, whatever the head's fields are.
func TestRest(t *testing.T) {
	for _, n := range far {
		for i, field := range rests {
			var o api.Object
			for _, h := range heads {
				o[h.field] = n - 1
			}
			var want [9]int
			o[field], want[i] = n, n
			if got := Rest(o); got != want {
				t.Errorf("field %d is %d: Rest is %v", field, n, got)
			}
		}
	}
	o := api.Object{0, 10, 20, 30, 40, 50, 60, 70, 80, 90, 100, 110, 120, 130, 140, 150, 160, 170}
	if got := Rest(o); got != [9]int{0, 60, 70, 80, 90, 120, 140, 150, 160} {
		t.Error(got)
	}
}

// P3.1: Object of a head that has a bit above the lowest 21: ErrForm, and no object beside it.
func TestObjectForm(t *testing.T) {
	rest := [9]int{1, -2, 3, -4, 5, -6, 7, -8, 9}
	for bit := 21; bit < 32; bit++ {
		for _, low := range []uint32{0, 1, 1024, 0x1fffff} {
			head := uint32(1)<<bit + low
			if got, err := Object(head, rest); got != (api.Object{}) || err != api.ErrForm {
				t.Errorf("Object(%#x) = %v, %v", head, got, err)
			}
		}
	}
	if got, err := Object(math.MaxUint32, rest); got != (api.Object{}) || err != api.ErrForm {
		t.Error(got, err)
	}
	if _, err := Object(1<<21-1, rest); err != nil {
		t.Error(err)
	}
}

// P3.1 and P3.2: of each head that there is Object is what its parts tell, and has that head and that rest.
func TestEachHead(t *testing.T) {
	for head := range uint32(1 << 21) {
		var rest [9]int
		for i := range rest {
			rest[i] = far[(int(head)+5*i)%len(far)]
		}
		want, _ := reckoned(head, rest)
		o, err := Object(head, rest)
		if o != want || err != nil {
			t.Fatalf("Object(%#x, %v) = %v, %v, not %v", head, rest, o, err, want)
		}
		if again, err := Head(o); again != head || err != nil {
			t.Fatalf("Head(%v) = %#x, %v, not %#x", o, again, err, head)
		}
		if again := Rest(o); again != rest {
			t.Fatalf("Rest(%v) = %v, not %v", o, again, rest)
		}
	}
}

// P3.2: an object whose fields are all told is that of its head and its rest, with each number of each field.
func TestObjectIsTold(t *testing.T) {
	for _, m := range far {
		for _, h := range heads {
			for n := range h.many {
				o := filled(m)
				for _, k := range heads {
					o[k.field] = k.many - 1
				}
				o[h.field] = n
				o[rests[n%9]] = n - m
				head, err := Head(o)
				if err != nil {
					t.Fatalf("Head(%v): %v", o, err)
				}
				if again, err := Object(head, Rest(o)); again != o || err != nil {
					t.Fatalf("Object(%#x, %v) = %v, %v, not %v", head, Rest(o), again, err, o)
				}
			}
		}
	}
}

// P3.1: Short about both ends, far off, and at each number between.
func TestShort(t *testing.T) {
	for n := -70000; n <= 70000; n++ {
		want := n
		if n > 32767 {
			want = 32767
		} else if n < -32768 {
			want = -32768
		}
		if got := Short(n); int(got) != want {
			t.Fatalf("Short(%d) = %d", n, got)
		}
	}
	for _, n := range []int{1 << 31, 1 << 32, 1<<32 + 5, 1<<48 - 5, 1 << 62, math.MaxInt - 1, math.MaxInt} {
		if Short(n) != 32767 || Short(-n) != -32768 {
			t.Error(n, Short(n), Short(-n))
		}
	}
	if got := Short(math.MinInt); got != -32768 {
		t.Error(got)
	}
}

// shorts are numbers of 16 bits: about 0, about a byte's ends, about both ends.
var shorts = []int16{-32768, -32767, -257, -256, -255, -129, -128, -2, -1, 0, 1, 2, 127, 128, 255, 256, 257, 0x1234, 32766, 32767}

// lower is the number from 0 to 65535 that has a number's lowest 16 bits.
func lower(n int16) int {
	return (int(n) + 65536) % 65536
}

// checkPair holds a Pair against its worth, and its Halves against what was put in.
func checkPair(t *testing.T, a, b int16) {
	t.Helper()
	got := Pair(a, b)
	if int(got) != lower(a)*65536+lower(b) {
		t.Fatalf("Pair(%d, %d) = %#x", a, b, got)
	}
	if c, d := Halves(got); c != a || d != b {
		t.Fatalf("Halves(%#x) = %d, %d, not %d, %d", got, c, d, a, b)
	}
}

// P3.1 and P3.2: a pair tells both, at each number in either half.
func TestPair(t *testing.T) {
	for n := math.MinInt16; n <= math.MaxInt16; n++ {
		for _, m := range shorts {
			checkPair(t, int16(n), m)
			checkPair(t, m, int16(n))
		}
	}
	if got := Pair(-1, 2); got != 4294901762 {
		t.Error("the chapter's example", got)
	}
}

// P3.1: Halves of words that are written out by hand.
func TestHalves(t *testing.T) {
	for x, want := range map[uint32][2]int16{
		0: {0, 0}, 1: {0, 1}, 0x10000: {1, 0}, 0x7fff8000: {32767, -32768}, 0x80007fff: {-32768, 32767}, 0x8000: {0, -32768},
		0xffff: {0, -1}, 0xffff0000: {-1, 0}, 0xffffffff: {-1, -1}, 0x12345678: {0x1234, 0x5678}, 4294901762: {-1, 2},
	} {
		if a, b := Halves(x); a != want[0] || b != want[1] {
			t.Errorf("Halves(%#x) = %d, %d", x, a, b)
		}
		if got := Pair(want[0], want[1]); got != x {
			t.Errorf("Pair(%d, %d) = %#x", want[0], want[1], got)
		}
	}
}
