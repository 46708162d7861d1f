package wire

import (
	"bytes"
	"math"
	"math/big"
	"slices"
	"testing"

	"mulligan/api"
)

// numbers are those about each edge: about each power of two of either sign, where bytes begin, where an int ends.
func numbers() []int {
	list := []int{0, 300, -300, 12345678901, -12345678901, math.MaxInt, math.MaxInt - 1, math.MinInt, math.MinInt + 1}
	for i := range 63 {
		list = append(list, 1<<i-1, 1<<i, 1<<i+1, -1<<i-1, -1<<i, -1<<i+1)
	}
	return list
}

// reckoned is a number's bytes by the chapter's words, with numbers that can't wrap around.
func reckoned(n int) []byte {
	x := new(big.Int).Mul(big.NewInt(int64(n)), big.NewInt(2))
	if n < 0 {
		x.Neg(x).Sub(x, big.NewInt(1))
	}
	var out []byte
	for {
		low := new(big.Int)
		x.QuoRem(x, big.NewInt(128), low)
		if x.Sign() == 0 {
			return append(out, byte(low.Int64()))
		}
		out = append(out, byte(low.Int64())+128)
	}
}

// reckonedList is a list's bytes by the chapter's words.
func reckonedList(list []int) []byte {
	out := reckoned(len(list))
	for _, n := range list {
		out = append(out, reckoned(n)...)
	}
	return out
}

// told is the number that bytes tell, whether they are right or not; false, if it isn't an int.
func told(b []byte) (int, bool) {
	x := new(big.Int)
	for i := len(b) - 1; i >= 0; i-- {
		x.Mul(x, big.NewInt(128)).Add(x, big.NewInt(int64(b[i]%128)))
	}
	if half, odd := new(big.Int).QuoRem(x, big.NewInt(2), new(big.Int)); odd.Sign() != 0 {
		x = half.Neg(half).Sub(half, big.NewInt(1))
	} else {
		x = half
	}
	return int(x.Int64()), x.IsInt64()
}

// expected is what Take is to answer: bytes are right, if they are those of the number that they tell.
func expected(b []byte) (int, []byte, error) {
	size := 0
	for size < min(len(b), 10) {
		size++
		if b[size-1] < 128 || size == 10 {
			n, isInt := told(b[:size])
			if !isInt || !bytes.Equal(reckoned(n), b[:size]) {
				return 0, nil, api.ErrForm
			}
			return n, b[size:], nil
		}
	}
	return 0, nil, api.ErrEnd
}

// expectedList is what TakeList is to answer.
func expectedList(b []byte, most int) ([]int, []byte, error) {
	count, rest, err := expected(b)
	if err != nil {
		return nil, nil, err
	}
	if count < 0 {
		return nil, nil, api.ErrRange
	}
	if count > most {
		return nil, nil, api.ErrMany
	}
	var list []int
	for range count {
		var n int
		if n, rest, err = expected(rest); err != nil {
			return nil, nil, err
		}
		list = append(list, n)
	}
	return list, rest, nil
}

// checkTake holds a Take against what it is to answer, and looks whether b is as it was.
func checkTake(t *testing.T, b []byte) {
	t.Helper()
	was := slices.Clone(b)
	n, rest, err := Take(b)
	wantN, wantRest, want := expected(was)
	if n != wantN || !bytes.Equal(rest, wantRest) || err != want {
		t.Errorf("Take(%v) = %d %v %v, not %d %v %v", was, n, rest, err, wantN, wantRest, want)
	}
	if err != nil && rest != nil {
		t.Errorf("Take(%v): a rest beside %v", was, err)
	}
	for i := range rest {
		rest[i]++
	}
	if !bytes.Equal(b, was) {
		t.Errorf("Take(%v): the rest is the argument's memory", was)
	}
}

// checkTakeList holds a TakeList against what it is to answer, and looks whether b is as it was.
func checkTakeList(t *testing.T, b []byte, most int) {
	t.Helper()
	was := slices.Clone(b)
	list, rest, err := TakeList(b, most)
	wantList, wantRest, want := expectedList(was, most)
	if !slices.Equal(list, wantList) || !bytes.Equal(rest, wantRest) || err != want {
		t.Errorf("TakeList(%v, %d) = %v %v %v, not %v %v %v", was, most, list, rest, err, wantList, wantRest, want)
	}
	if err != nil && (list != nil || rest != nil) {
		t.Errorf("TakeList(%v, %d): a list or a rest beside %v", was, most, err)
	}
	for i := range rest {
		rest[i]++
	}
	if !bytes.Equal(b, was) {
		t.Errorf("TakeList(%v, %d): the rest is the argument's memory", was, most)
	}
}

// P2.1: Put and Size at the ordinary numbers and about each edge.
func TestPut(t *testing.T) {
	for _, n := range numbers() {
		want := reckoned(n)
		for _, b := range [][]byte{nil, {}, {7}, {0, 128, 255}} {
			if got := Put(b, n); !bytes.Equal(got, append(slices.Clone(b), want...)) {
				t.Errorf("Put(%v, %d) = %v", b, n, got)
			}
		}
		if got := Size(n); got != len(want) {
			t.Errorf("Size(%d) = %d", n, got)
		}
	}
	for n := -20000; n <= 20000; n++ {
		want := reckoned(n)
		if got := Put(nil, n); !bytes.Equal(got, want) || Size(n) != len(want) {
			t.Fatalf("Put(nil, %d) = %v; its size is %d", n, got, Size(n))
		}
	}
}

// P2.1: the bytes that the chapter's sentences and examples tell, written out.
func TestPutByHand(t *testing.T) {
	full := bytes.Repeat([]byte{255}, 9)
	for _, c := range []struct {
		n    int
		want []byte
	}{
		{0, []byte{0}}, {-1, []byte{1}}, {1, []byte{2}}, {-2, []byte{3}}, {63, []byte{126}}, {-64, []byte{127}},
		{64, []byte{128, 1}}, {-65, []byte{129, 1}}, {300, []byte{216, 4}}, {8191, []byte{254, 127}}, {-8192, []byte{255, 127}},
		{8192, []byte{128, 128, 1}},
		{math.MaxInt, append([]byte{254}, append(slices.Clone(full[1:]), 1)...)}, {math.MinInt, append(slices.Clone(full), 1)},
		{1<<62 - 1, append([]byte{254}, append(slices.Clone(full[2:]), 127)...)}, {-1 << 62, append(slices.Clone(full[1:]), 127)},
	} {
		if got := Put(nil, c.n); !bytes.Equal(got, c.want) || Size(c.n) != len(c.want) {
			t.Errorf("Put(nil, %d) = %v; its size is %d", c.n, got, Size(c.n))
		}
		if n, rest, err := Take(c.want); n != c.n || len(rest) != 0 || err != nil {
			t.Errorf("Take(%v) = %d %v %v", c.want, n, rest, err)
		}
	}
}

// P2.1: PutList at lists of no number, one, and many.
func TestPutList(t *testing.T) {
	many := numbers()
	for _, list := range [][]int{nil, {}, {0}, {-1}, {300, -1}, many[:63], many[:64], many, make([]int, 10000)} {
		was := slices.Clone(list)
		for _, b := range [][]byte{nil, {}, {7}, {0, 128, 255}} {
			if got := PutList(b, list); !bytes.Equal(got, append(slices.Clone(b), reckonedList(was)...)) {
				t.Errorf("PutList(%v, %v) = %v", b, was, got)
			}
		}
		if !slices.Equal(list, was) {
			t.Errorf("PutList changed %v to %v", was, list)
		}
	}
	if got := PutList(nil, []int{300, -1}); !bytes.Equal(got, []byte{4, 216, 4, 1}) {
		t.Error(got)
	}
	if got := PutList(nil, nil); !bytes.Equal(got, []byte{0}) {
		t.Error(got)
	}
}

// P2.1: what stands in the spare room of b stays, and two answers behind one b share no memory with it or each other.
func TestSpareRoom(t *testing.T) {
	room := bytes.Repeat([]byte{99}, 64)
	was := slices.Clone(room)
	puts := []func(b []byte) []byte{
		func(b []byte) []byte { return Put(b, 300) },
		func(b []byte) []byte { return Put(b, math.MinInt) },
		func(b []byte) []byte { return PutList(b, nil) },
		func(b []byte) []byte { return PutList(b, []int{1, 300}) },
	}
	for i, put := range puts {
		for _, size := range []int{0, 1, 5} {
			one, two := put(room[:size]), put(room[:size])
			kept := slices.Clone(two)
			for j := range one {
				one[j]++
			}
			if !bytes.Equal(room, was) || !bytes.Equal(two, kept) {
				t.Fatalf("put %d behind %d bytes: %v, and %v besides", i, size, room, two)
			}
		}
	}
}

// P2.2: of each number what is put is taken, with whatever stands behind; P2.1: of its first bytes alone Take tells ErrEnd.
func TestTakePut(t *testing.T) {
	for _, n := range numbers() {
		for _, behind := range [][]byte{nil, {0}, {1}, {128}, {255, 255}, bytes.Repeat([]byte{128}, 12)} {
			b := append(Put(nil, n), behind...)
			got, rest, err := Take(b)
			if got != n || !bytes.Equal(rest, behind) || err != nil {
				t.Errorf("Take(%v) = %d %v %v", b, got, rest, err)
			}
			checkTake(t, b)
		}
		b := Put(nil, n)
		for size := range b {
			if got, rest, err := Take(b[:size]); got != 0 || rest != nil || err != api.ErrEnd {
				t.Errorf("Take(%v) = %d %v %v", b[:size], got, rest, err)
			}
		}
	}
}

// P2.1: no bytes, and from 1 to 9 that all have 128: ErrEnd; the tenth one ends it, right or not.
func TestTakeEnd(t *testing.T) {
	for _, b := range [][]byte{nil, {}} {
		if n, rest, err := Take(b); n != 0 || rest != nil || err != api.ErrEnd {
			t.Error(n, rest, err)
		}
	}
	for _, c := range []byte{128, 129, 255} {
		for size := 1; size <= 12; size++ {
			want := api.ErrEnd
			if size >= 10 {
				want = api.ErrForm
			}
			b := bytes.Repeat([]byte{c}, size)
			if n, rest, err := Take(b); n != 0 || rest != nil || err != want {
				t.Errorf("Take(%v) = %d %v %v", b, n, rest, err)
			}
		}
	}
}

// P2.1: a last byte 0 isn't right, but of one byte alone, at each size.
func TestTakeLastZero(t *testing.T) {
	for _, c := range []byte{128, 129, 255} {
		for size := 1; size <= 9; size++ {
			b := append(bytes.Repeat([]byte{c}, size), 0)
			for _, behind := range [][]byte{nil, {1}, {128}} {
				if n, rest, err := Take(append(slices.Clone(b), behind...)); n != 0 || rest != nil || err != api.ErrForm {
					t.Errorf("Take(%v and %v) = %d %v %v", b, behind, n, rest, err)
				}
			}
		}
	}
	if n, rest, err := Take([]byte{0, 0}); n != 0 || !bytes.Equal(rest, []byte{0}) || err != nil {
		t.Error(n, rest, err)
	}
}

// P2.1: the tenth byte is right, if it is 1, whatever follows, and never else.
func TestTakeTenth(t *testing.T) {
	for _, c := range []byte{128, 129, 255} {
		for tenth := range 256 {
			for _, behind := range [][]byte{nil, {0}, {1}, {128}, {255, 1}} {
				b := append(append(bytes.Repeat([]byte{c}, 9), byte(tenth)), behind...)
				if _, _, err := Take(b); (err == nil) != (tenth == 1) || err != nil && err != api.ErrForm {
					t.Errorf("Take(%v): %v", b, err)
				}
				checkTake(t, b)
			}
		}
	}
}

// texts hands over all bytes of at most that size whose bytes are those of a sort.
func texts(sort []byte, size int, visit func(b []byte)) {
	var grow func(b []byte)
	grow = func(b []byte) {
		visit(b)
		if len(b) == size {
			return
		}
		for _, c := range sort {
			grow(append(slices.Clone(b), c))
		}
	}
	grow(nil)
}

// P2.1: Take and TakeList at all short bytes of some sorts, right and wrong.
func TestTakeAllShort(t *testing.T) {
	texts([]byte{0, 1, 2, 3, 4, 127, 128, 129, 255}, 4, func(b []byte) {
		checkTake(t, b)
		for _, most := range []int{math.MinInt, -1, 0, 1, 2, math.MaxInt} {
			checkTakeList(t, b, most)
		}
	})
	for c := range 256 {
		for d := range 256 {
			checkTake(t, []byte{byte(c), byte(d), 1})
		}
	}
}

// P2.1: Take at long bytes, which are wrong or right at the ninth byte, the tenth, or behind.
func TestTakeAllLong(t *testing.T) {
	for _, size := range []int{7, 8, 9, 10} {
		begin := bytes.Repeat([]byte{213}, size)
		texts([]byte{0, 1, 2, 127, 128, 255}, 4, func(b []byte) { checkTake(t, append(slices.Clone(begin), b...)) })
	}
}

// P2.2: of each list what is put is taken, with whatever stands behind, if as many are allowed; P2.1: else ErrMany.
func TestTakePutList(t *testing.T) {
	many := numbers()
	for _, list := range [][]int{nil, {0}, {-1}, {300, -1}, many[:63], many[:64], many, make([]int, 10000)} {
		for _, behind := range [][]byte{nil, {0}, {128}, {255, 255}} {
			b := append(PutList(nil, list), behind...)
			for _, most := range []int{len(list), len(list) + 1, math.MaxInt} {
				got, rest, err := TakeList(b, most)
				if !slices.Equal(got, list) || !bytes.Equal(rest, behind) || err != nil {
					t.Errorf("TakeList(%v, %d) = %v %v %v", b, most, got, rest, err)
				}
			}
			for _, most := range []int{len(list) - 1, -1, math.MinInt} {
				if got, rest, err := TakeList(b, most); got != nil || rest != nil || err != api.ErrMany {
					t.Errorf("TakeList(%v, %d) = %v %v %v", b, most, got, rest, err)
				}
			}
		}
		if b := PutList(nil, list); len(b) < 1000 {
			checkBeginnings(t, b)
		}
	}
}

// checkBeginnings looks whether of each beginning of a list's bytes TakeList tells ErrEnd.
func checkBeginnings(t *testing.T, b []byte) {
	t.Helper()
	for size := range b {
		if list, rest, err := TakeList(b[:size], math.MaxInt); list != nil || rest != nil || err != api.ErrEnd {
			t.Errorf("TakeList(%v) = %v %v %v", b[:size], list, rest, err)
		}
	}
}

// P2.1: which of TakeList's errors is told where several apply.
func TestTakeListErrors(t *testing.T) {
	wrong := []byte{128, 0}
	for _, c := range []struct {
		b    []byte
		most int
		want error
	}{
		{nil, 5, api.ErrEnd},                                       // how many: not there
		{[]byte{128}, -1, api.ErrEnd},                              // how many ahead of the most
		{wrong, -1, api.ErrForm},                                   // how many: not right
		{bytes.Repeat([]byte{255}, 10), 5, api.ErrForm},            // how many: more than 64 bits
		{Put(nil, -1), 5, api.ErrRange},                            // below 0
		{Put(nil, -1), -2, api.ErrRange},                           // below 0, and above the most
		{Put(nil, math.MinInt), math.MinInt, api.ErrRange},         // the least number
		{append(Put(nil, -1), wrong...), 5, api.ErrRange},          // below 0 ahead of what follows
		{Put(nil, 6), 5, api.ErrMany},                              // above the most ahead of what isn't there
		{append(Put(nil, 6), wrong...), 5, api.ErrMany},            // above the most ahead of what follows
		{Put(nil, math.MaxInt), math.MaxInt - 1, api.ErrMany},      // the greatest number
		{Put(nil, math.MaxInt), math.MaxInt, api.ErrEnd},           // as many as allowed, and none there
		{Put(nil, 0), -1, api.ErrMany},                             // none, where none are allowed
		{append(Put(nil, 1), wrong...), 1, api.ErrForm},            // the first number
		{append([]byte{4, 2}, wrong...), 2, api.ErrForm},           // the last number
		{append([]byte{6}, append(wrong, 128)...), 3, api.ErrForm}, // the first wrong one, not the last
		{[]byte{6, 2, 4}, 3, api.ErrEnd},                           // the last number isn't there
		{[]byte{6, 2, 4, 128}, 3, api.ErrEnd},                      // half of the last number
		{[]byte{0}, 0, nil},
		{append([]byte{0}, wrong...), 0, nil},       // what stands behind may be wrong
		{append([]byte{4, 2, 2}, wrong...), 2, nil}, // behind the last number, too
		{append([]byte{2}, append(bytes.Repeat([]byte{255}, 9), 1)...), 1, nil},
	} {
		if _, _, err := TakeList(c.b, c.most); err != c.want {
			t.Errorf("TakeList(%v, %d): %v, not %v", c.b, c.most, err, c.want)
		}
		checkTakeList(t, c.b, c.most)
	}
}

// P2.1: a list of which far more numbers are told than there are is refused without room for all of them.
func TestTakeListOfTooMany(t *testing.T) {
	for _, count := range []int{1 << 40, 1 << 60, math.MaxInt} {
		b := append(Put(nil, count), make([]byte, 1000)...)
		if list, rest, err := TakeList(b, math.MaxInt); list != nil || rest != nil || err != api.ErrEnd {
			t.Error(count, len(list), len(rest), err)
		}
		b = append(b, 129, 0)
		if list, rest, err := TakeList(b, math.MaxInt); list != nil || rest != nil || err != api.ErrForm {
			t.Error(count, len(list), len(rest), err)
		}
	}
}

// lists are all lists of at most three of some numbers, the longest bytes and the shortest among them.
func lists() [][]int {
	out := [][]int{nil}
	for i := 0; i < len(out); i++ {
		if len(out[i]) == 3 {
			continue
		}
		for _, n := range []int{0, 1, 2, 3, -1, -2, 63, 64, -64, -65, 300, 8192, math.MaxInt, math.MinInt} {
			out = append(out, append(slices.Clone(out[i]), n))
		}
	}
	return out
}

// P2.2: unlike lists have unlike bytes, of which none begin with another one's; likewise unlike numbers.
func TestNoneBeginsWithAnother(t *testing.T) {
	var ofLists, ofNumbers [][]byte
	for _, list := range lists() {
		ofLists = append(ofLists, PutList(nil, list))
	}
	single := numbers()
	slices.Sort(single)
	for _, n := range slices.Compact(single) {
		ofNumbers = append(ofNumbers, Put(nil, n))
	}
	for _, all := range [][][]byte{ofLists, ofNumbers} {
		// Sorted, bytes that begin with others stand somewhere behind them, with none between that don't begin so.
		slices.SortFunc(all, bytes.Compare)
		for i, b := range all[1:] {
			if bytes.HasPrefix(b, all[i]) {
				t.Errorf("%v begins with %v", b, all[i])
			}
		}
	}
}

// P2.2: numbers and lists, one behind the other, are taken in their order.
func TestOneBehindTheOther(t *testing.T) {
	var b []byte
	for i, list := range lists() {
		b = PutList(Put(b, i-5), list)
	}
	for i, list := range lists() {
		n, rest, err := Take(b)
		if n != i-5 || err != nil {
			t.Fatal(i, n, err)
		}
		got, rest, err := TakeList(rest, 3)
		if !slices.Equal(got, list) || err != nil {
			t.Fatal(i, got, err)
		}
		b = rest
	}
	if len(b) != 0 {
		t.Error(b)
	}
}
