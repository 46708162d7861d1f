package rand

import (
	"math"
	"math/big"
	chance "math/rand"
	"slices"
	"testing"

	"mulligan/api"
)

// numbers are such as a draw, a cursor or an n may be handed in as, right or far off.
var numbers = []int{
	math.MinInt, math.MinInt + 1, math.MinInt + 2, -1<<32 - 1, -1 << 32, -1 << 31, -1<<30 - 1, -4097, -4096, -401, -400, -399, -8, -7, -6, -5, -4, -3, -2, -1,
	0, 1, 2, 3, 4, 5, 6, 7, 8, 9, 10, 99, 100, 101, 255, 256, 257, 398, 399, 400, 401, 402, 4095, 4096, 4097, 4098,
	1<<16 - 1, 1 << 16, 1<<30 - 1, 1 << 30, 1<<31 - 1, 1 << 31, 1 << 32, 1<<32 + 1, 1<<32 + 7, 1 << 62, math.MaxInt - 2, math.MaxInt - 1, math.MaxInt,
}

// mark is what stands in the spare room of what is handed in.
const mark = -777

// cloned is a list apart, in whose spare room marks stand.
func cloned(list []int) []int {
	return slices.Concat(list, []int{mark, mark})[:len(list)]
}

// checkKept asks that a cloned list is as it was, and so are the marks in its spare room.
func checkKept(t *testing.T, apart, was []int) {
	t.Helper()
	spare := apart[len(apart) : len(apart)+2]
	if !slices.Equal(apart, was) || spare[0] != mark || spare[1] != mark {
		t.Fatal("what was handed in was changed", apart, was, spare)
	}
}

// drawn is the number from 0 to n - 1 that differs from x by a multiple of n, by numbers that don't wrap around.
func drawn(x, n int) int {
	rest := new(big.Int).Mod(big.NewInt(int64(x)), big.NewInt(int64(n)))
	return int(rest.Int64())
}

// ordered is an order of n by draws of which the first ones are used up: each number's place is followed through all changes.
func ordered(draws []int, n int) []int {
	var changes [][2]int
	for step := range n - 1 {
		last := n - 1 - step
		changes = append(changes, [2]int{last, drawn(draws[step], last+1)})
	}
	order := make([]int, n)
	for number := range n {
		place := number
		for _, change := range changes {
			switch place {
			case change[0]:
				place = change[1]
			case change[1]:
				place = change[0]
			}
		}
		order[place] = number
	}
	return order
}

// leading is draws that lead to an order.
func leading(order []int) []int {
	var draws []int
	now := upTo(len(order))
	for place := len(order) - 1; place >= 1; place-- {
		with := slices.Index(now, order[place])
		draws = append(draws, with)
		now[with] = now[place]
	}
	return draws
}

// upTo is the numbers from 0 to n - 1.
func upTo(n int) []int {
	var list []int
	for number := range n {
		list = append(list, number)
	}
	return list
}

// hasEachOnce tells whether an order of n has each place once.
func hasEachOnce(order []int, n int) bool {
	return slices.Equal(slices.Sorted(slices.Values(order)), upTo(n))
}

// some is draws by chance, of all sorts.
func some(rows *chance.Rand, count int) []int {
	var draws []int
	for range count {
		switch rows.Intn(3) {
		case 0:
			draws = append(draws, numbers[rows.Intn(len(numbers))])
		case 1:
			draws = append(draws, rows.Intn(2000)-1000)
		default:
			draws = append(draws, int(rows.Uint64()))
		}
	}
	return draws
}

// checkPick asks Pick, and that the draws are as they were.
func checkPick(t *testing.T, draws []int, cursor, n, number, behind int, want error) {
	t.Helper()
	apart := cloned(draws)
	got, at, err := Pick(apart, cursor, n)
	if got != number || at != behind || err != want {
		t.Fatal(len(draws), cursor, n, "answered", got, at, err, "asked", number, behind, want)
	}
	checkKept(t, apart, draws)
}

// checkOrder asks Order, and that the draws are as they were.
func checkOrder(t *testing.T, draws []int, cursor, n int, order []int, behind int, want error) {
	t.Helper()
	apart := cloned(draws)
	got, at, err := Order(apart, cursor, n)
	if !slices.Equal(got, order) || at != behind || err != want {
		t.Fatal(len(draws), cursor, n, "answered", got, at, err, "asked", order, behind, want)
	}
	if err != nil && got != nil {
		t.Fatal("an order beside an error", got, err)
	}
	checkKept(t, apart, draws)
}

// P16.1: the chapter's example.
func TestExample(t *testing.T) {
	order, cursor, err := Order([]int{1, 0}, 0, 3)
	if !slices.Equal(order, []int{2, 0, 1}) || cursor != 2 || err != nil {
		t.Error(order, cursor, err)
	}
}

// P16.1: Check answers ErrMany of more than 4096 draws, whatever they are, and however much room is spare.
func TestCheck(t *testing.T) {
	if err := Check(nil); err != nil {
		t.Error(err)
	}
	for _, count := range []int{0, 1, 2, 3, 400, 1000, 4094, 4095, 4096, 4097, 4098, 5000, 8192, 65536, 1 << 20} {
		want := error(nil)
		if count > 4096 {
			want = api.ErrMany
		}
		for _, x := range numbers {
			draws := make([]int, count, count+5000)
			for place := range min(count, 3) {
				draws[place] = x
			}
			if err := Check(draws); err != want {
				t.Fatal(count, x, err)
			}
			if count > 5000 {
				break
			}
		}
	}
	rows := chance.New(chance.NewSource(16))
	draws := some(rows, 4096)
	apart := cloned(draws)
	if err := Check(apart); err != nil {
		t.Error(err)
	}
	checkKept(t, apart, draws)
	if err := Check(apart[:4097]); err != api.ErrMany {
		t.Error(err)
	}
}

// P16.1: Pick, written out.
func TestPickByHand(t *testing.T) {
	draws := []int{5, -1, 0, 7, -7, 12, math.MaxInt, math.MinInt}
	for _, row := range []struct{ cursor, n, want int }{
		{0, 1, 0}, {0, 2, 1}, {0, 3, 2}, {0, 4, 1}, {0, 5, 0}, {0, 6, 5}, {0, 7, 5}, {0, math.MaxInt, 5},
		{1, 1, 0}, {1, 2, 1}, {1, 3, 2}, {1, 7, 6}, {1, 400, 399}, {1, math.MaxInt, math.MaxInt - 1},
		{2, 1, 0}, {2, 2, 0}, {2, 9, 0}, {2, math.MaxInt, 0},
		{3, 7, 0}, {3, 8, 7}, {3, 6, 1}, {4, 7, 0}, {4, 8, 1}, {4, 6, 5}, {4, 5, 3}, {4, 14, 7},
		{5, 5, 2}, {5, 10, 2}, {5, 12, 0}, {5, 13, 12},
		{6, 1, 0}, {6, 2, 1}, {6, 10, 7}, {6, math.MaxInt, 0}, {6, math.MaxInt - 1, 1},
		{7, 1, 0}, {7, 2, 0}, {7, 10, 2}, {7, 3, 1}, {7, math.MaxInt, math.MaxInt - 1}, {7, math.MaxInt - 1, math.MaxInt - 3},
	} {
		checkPick(t, draws, row.cursor, row.n, row.want, row.cursor+1, nil)
	}
}

// P16.1: Pick of each sort of draw below each sort of n: the number differs from the draw by a multiple of n, and is from 0 to n - 1.
func TestPick(t *testing.T) {
	for _, x := range numbers {
		for _, n := range numbers {
			if n < 1 {
				continue
			}
			want := drawn(x, n)
			apart := new(big.Int).Sub(big.NewInt(int64(x)), big.NewInt(int64(want)))
			if want < 0 || want >= n || new(big.Int).Rem(apart, big.NewInt(int64(n))).Sign() != 0 {
				t.Fatal(x, n, want)
			}
			checkPick(t, []int{x}, 0, n, want, 1, nil)
			checkPick(t, []int{3, 1, x, 2}, 2, n, want, 3, nil)
		}
	}
	for x := -450; x <= 450; x++ {
		for n := 1; n <= 410; n++ {
			if got, at, err := Pick([]int{0, x}, 1, n); got != drawn(x, n) || at != 2 || err != nil {
				t.Fatal(x, n, got, at, err)
			}
		}
	}
}

// P16.1: Pick goes by the cursor through as many draws as there may be, one behind the other.
func TestPickByTheCursor(t *testing.T) {
	rows := chance.New(chance.NewSource(161))
	draws := some(rows, 4096)
	apart := cloned(draws)
	cursor := 0
	for place, x := range draws {
		n := 1 + rows.Intn(1000)
		got, behind, err := Pick(apart, cursor, n)
		if got != drawn(x, n) || behind != place+1 || err != nil {
			t.Fatal(place, x, n, got, behind, err)
		}
		cursor = behind
	}
	checkKept(t, apart, draws)
	checkPick(t, draws, cursor, 5, 0, 0, api.ErrDraws)
}

// P16.1: Pick's errors in order, at all pairs of a cursor and an n: ErrMany, ErrRange, ErrDraws.
func TestPickErrors(t *testing.T) {
	for _, count := range []int{0, 1, 2, 7, 400, 4095, 4096, 4097, 5000} {
		draws := make([]int, count)
		for place := range draws {
			draws[place] = 3*place + 1
		}
		for _, cursor := range slices.Concat(numbers, []int{count - 2, count - 1, count, count + 1, -count}) {
			for _, n := range numbers {
				switch {
				case count > 4096:
					checkPick(t, draws, cursor, n, 0, 0, api.ErrMany)
				case n < 1 || cursor < 0:
					checkPick(t, draws, cursor, n, 0, 0, api.ErrRange)
				case cursor >= count:
					checkPick(t, draws, cursor, n, 0, 0, api.ErrDraws)
				default:
					checkPick(t, draws, cursor, n, drawn(3*cursor+1, n), cursor+1, nil)
				}
			}
		}
	}
}

// P16.1: Pick's errors, written out.
func TestPickErrorsByHand(t *testing.T) {
	many := make([]int, 4097)
	for _, row := range []struct {
		draws     []int
		cursor, n int
		want      error
	}{
		{nil, 0, 1, api.ErrDraws}, {nil, 0, 0, api.ErrRange}, {nil, -1, 1, api.ErrRange}, {nil, -1, 0, api.ErrRange}, {[]int{}, 0, 1, api.ErrDraws},
		{[]int{4}, 1, 1, api.ErrDraws}, {[]int{4}, 2, 1, api.ErrDraws}, {[]int{4}, math.MaxInt, 1, api.ErrDraws}, {[]int{4}, 1, 0, api.ErrRange},
		{[]int{4}, 0, 0, api.ErrRange}, {[]int{4}, 0, -1, api.ErrRange}, {[]int{4}, 0, math.MinInt, api.ErrRange}, {[]int{4}, -1, 1, api.ErrRange},
		{[]int{4}, math.MinInt, 1, api.ErrRange}, {many, 0, 1, api.ErrMany}, {many, 0, 0, api.ErrMany}, {many, -1, 1, api.ErrMany},
		{many, 4096, 1, api.ErrMany}, {many, 4097, 1, api.ErrMany}, {many, -1, -1, api.ErrMany}, {many[:4096], 4096, 1, api.ErrDraws},
	} {
		checkPick(t, row.draws, row.cursor, row.n, 0, 0, row.want)
	}
	checkPick(t, many[:4096], 4095, 1, 0, 4096, nil)
}

// P16.1: Order, written out.
func TestOrderByHand(t *testing.T) {
	for _, row := range []struct {
		draws  []int
		cursor int
		want   []int
	}{
		{nil, 0, nil}, {nil, 0, []int{0}}, {[]int{0}, 0, []int{1, 0}}, {[]int{1}, 0, []int{0, 1}}, {[]int{-1}, 0, []int{0, 1}}, {[]int{2}, 0, []int{1, 0}},
		{[]int{0, 0}, 0, []int{1, 2, 0}}, {[]int{0, 1}, 0, []int{2, 1, 0}}, {[]int{1, 0}, 0, []int{2, 0, 1}}, {[]int{1, 1}, 0, []int{0, 2, 1}},
		{[]int{2, 0}, 0, []int{1, 0, 2}}, {[]int{2, 1}, 0, []int{0, 1, 2}}, {[]int{-1, -1}, 0, []int{0, 1, 2}}, {[]int{-2, -2}, 0, []int{2, 0, 1}},
		{[]int{4, 4}, 0, []int{2, 0, 1}}, {[]int{9, 9, 1, 0}, 2, []int{2, 0, 1}}, {[]int{9, 9, 1, 0, 9}, 2, []int{2, 0, 1}},
		{[]int{0, 0, 0}, 0, []int{1, 2, 3, 0}}, {[]int{3, 2, 1}, 0, []int{0, 1, 2, 3}}, {[]int{0, 1, 0}, 0, []int{2, 3, 1, 0}}, {[]int{0, 1, 1}, 0, []int{3, 2, 1, 0}},
		{[]int{2, 0, 0}, 0, []int{1, 3, 0, 2}}, {[]int{1, 1, 0}, 0, []int{2, 0, 3, 1}}, {[]int{3, 0, 1}, 0, []int{2, 1, 0, 3}}, {[]int{0, 0, 0, 0}, 0, []int{1, 2, 3, 4, 0}},
		{[]int{math.MaxInt, math.MinInt}, 0, []int{2, 0, 1}}, {[]int{math.MinInt, math.MaxInt}, 0, []int{0, 2, 1}},
	} {
		checkOrder(t, row.draws, row.cursor, len(row.want), row.want, row.cursor+max(len(row.want)-1, 0), nil)
	}
}

// P16.1: orders of each n that there may be, at draws of all sorts, from each place on.
func TestOrder(t *testing.T) {
	rows := chance.New(chance.NewSource(162))
	for n := range 401 {
		for _, ahead := range []int{0, 1, rows.Intn(3000)} {
			for _, rest := range []int{0, 1, rows.Intn(600)} {
				draws := some(rows, ahead+max(n-1, 0)+rest)
				checkOrder(t, draws, ahead, n, ordered(draws[ahead:], n), ahead+max(n-1, 0), nil)
			}
		}
	}
	draws := some(rows, 4096)
	for _, n := range []int{0, 1, 2, 3, 60, 399, 400} {
		last := 4096 - max(n-1, 0)
		checkOrder(t, draws, last, n, ordered(draws[last:], n), 4096, nil)
		checkOrder(t, draws, 0, n, ordered(draws, n), max(n-1, 0), nil)
	}
}

// P16.1: an order uses up a draw below i + 1 for each i from n - 1 down to 1, as Pick does, and as many as Needs says.
func TestOrderIsPicks(t *testing.T) {
	rows := chance.New(chance.NewSource(163))
	for range 300 {
		n := rows.Intn(401)
		start := rows.Intn(20)
		draws := some(rows, 450)
		want, cursor := upTo(n), start
		for i := n - 1; i >= 1; i-- {
			with, behind, err := Pick(draws, cursor, i+1)
			if err != nil {
				t.Fatal(err)
			}
			want[i], want[with] = want[with], want[i]
			cursor = behind
		}
		if cursor != start+Needs(n) {
			t.Fatal(n, start, cursor)
		}
		checkOrder(t, draws, start, n, want, cursor, nil)
	}
}

// P16.1: Order's errors in order, at all pairs of a cursor and an n: ErrMany, ErrRange, ErrDraws; without changes no draw need be left.
func TestOrderErrors(t *testing.T) {
	for _, count := range []int{0, 1, 2, 7, 398, 399, 400, 4095, 4096, 4097, 5000} {
		draws := make([]int, count)
		for place := range draws {
			draws[place] = 7*place + 2
		}
		for _, cursor := range slices.Concat(numbers, []int{count - 400, count - 399, count - 398, count - 2, count - 1, count, count + 1}) {
			for _, n := range slices.Concat(numbers, []int{count, count + 1, count + 2}) {
				needs := max(n-1, 0)
				switch {
				case count > 4096:
					checkOrder(t, draws, cursor, n, nil, 0, api.ErrMany)
				case n < 0 || n > 400 || cursor < 0:
					checkOrder(t, draws, cursor, n, nil, 0, api.ErrRange)
				case n < 2:
					checkOrder(t, draws, cursor, n, upTo(n), cursor, nil)
				case cursor > count || count-cursor < needs:
					checkOrder(t, draws, cursor, n, nil, 0, api.ErrDraws)
				default:
					checkOrder(t, draws, cursor, n, ordered(draws[cursor:], n), cursor+needs, nil)
				}
			}
		}
	}
}

// P16.1: Order's errors, written out.
func TestOrderErrorsByHand(t *testing.T) {
	many := make([]int, 4097)
	for _, row := range []struct {
		draws     []int
		cursor, n int
		want      error
	}{
		{nil, 0, 2, api.ErrDraws}, {nil, 0, 400, api.ErrDraws}, {nil, 0, 401, api.ErrRange}, {nil, 0, -1, api.ErrRange}, {nil, -1, 0, api.ErrRange}, {nil, -1, 3, api.ErrRange},
		{[]int{1}, 0, 3, api.ErrDraws}, {[]int{1, 0}, 1, 3, api.ErrDraws}, {[]int{1, 0}, 3, 2, api.ErrDraws}, {[]int{1, 0}, math.MaxInt, 2, api.ErrDraws},
		{[]int{1, 0}, math.MinInt, 2, api.ErrRange}, {[]int{1, 0}, 0, math.MinInt, api.ErrRange}, {[]int{1, 0}, 0, math.MaxInt, api.ErrRange}, {[]int{1, 0}, -1, 401, api.ErrRange},
		{many[:398], 0, 400, api.ErrDraws}, {many[:399], 1, 400, api.ErrDraws}, {many[:400], 0, 401, api.ErrRange}, {many[:4096], 3698, 400, api.ErrDraws},
		{many, 0, 3, api.ErrMany}, {many, 0, 0, api.ErrMany}, {many, 0, 401, api.ErrMany}, {many, -1, 3, api.ErrMany}, {many, 4097, 3, api.ErrMany}, {many, -1, -1, api.ErrMany},
	} {
		checkOrder(t, row.draws, row.cursor, row.n, nil, 0, row.want)
	}
	checkOrder(t, many[:399], 0, 400, ordered(many, 400), 399, nil)
	checkOrder(t, many[:4096], 3697, 400, ordered(many, 400), 4096, nil)
	checkOrder(t, nil, math.MaxInt, 0, nil, math.MaxInt, nil)
	checkOrder(t, nil, math.MaxInt, 1, []int{0}, math.MaxInt, nil)
	checkOrder(t, many[:4096], 5000, 1, []int{0}, 5000, nil)
}

// P16.2: of all draws that differ for an order of up to 7 each order comes once, and has each place once.
func TestOrdersAreAllOrders(t *testing.T) {
	all := 1
	for n := range 8 {
		all *= max(n, 1)
		came := map[[7]int]bool{}
		for which := range all {
			var draws []int
			for below := n; below >= 2; below-- {
				draws = append(draws, which%below)
				which /= below
			}
			order, cursor, err := Order(draws, 0, n)
			if err != nil || cursor != max(n-1, 0) || !hasEachOnce(order, n) {
				t.Fatal(draws, order, cursor, err)
			}
			var key [7]int
			copy(key[:], order)
			came[key] = true
		}
		if len(came) != all {
			t.Error(n, len(came), all)
		}
	}
}

// P16.2: each order can be drawn, of whatever length: draws that lead to it are told ahead.
func TestEachOrderCanBeDrawn(t *testing.T) {
	rows := chance.New(chance.NewSource(164))
	for n := range 401 {
		turned := upTo(n)
		slices.Reverse(turned)
		for _, order := range [][]int{upTo(n), turned, rows.Perm(n), rows.Perm(n), rows.Perm(n)} {
			checkOrder(t, leading(order), 0, n, order, max(n-1, 0), nil)
		}
	}
}

// P16.2: each order has each place once, at draws of all sorts.
func TestOrderHasEachPlaceOnce(t *testing.T) {
	rows := chance.New(chance.NewSource(165))
	for range 3000 {
		n := rows.Intn(401)
		order, _, err := Order(some(rows, 400), 0, n)
		if err != nil || !hasEachOnce(order, n) {
			t.Fatal(n, order, err)
		}
	}
	for _, x := range numbers {
		for n := range 401 {
			draws := slices.Repeat([]int{x}, 399)
			order, _, err := Order(draws, 0, n)
			if err != nil || !hasEachOnce(order, n) {
				t.Fatal(x, n, order, err)
			}
		}
	}
}

// P16.1: an order shares no memory with the draws, nor with another order, and nothing is kept from call to call.
func TestOrderApart(t *testing.T) {
	rows := chance.New(chance.NewSource(166))
	for n := range 50 {
		draws := some(rows, 60)
		apart := cloned(draws)
		first, _, _ := Order(apart, 0, n)
		second, _, _ := Order(apart, 0, n)
		for place := range first {
			first[place] = mark
		}
		_ = append(first, mark)
		if want := ordered(draws, n); !slices.Equal(second, want) {
			t.Fatal(n, second, want)
		}
		checkKept(t, apart, draws)
		for place := range apart {
			apart[place] = 0
		}
		if want := ordered(draws, n); !slices.Equal(second, want) {
			t.Fatal(n, second, want)
		}
		checkOrder(t, draws, 0, n, ordered(draws, n), max(n-1, 0), nil)
	}
}

// P16.1: Left, written out, and at all pairs of a count and a cursor, of more draws than there may be, too.
func TestLeft(t *testing.T) {
	draws := []int{9, -9, 9, 0}
	for cursor, want := range []int{4, 3, 2, 1, 0, 0, 0} {
		if got := Left(draws, cursor); got != want {
			t.Error(cursor, got, want)
		}
	}
	for _, count := range []int{0, 1, 2, 7, 399, 400, 4095, 4096, 4097, 10000} {
		draws := make([]int, count)
		apart := cloned(draws)
		for _, cursor := range slices.Concat(numbers, []int{count - 2, count - 1, count, count + 1, count + 2, -count}) {
			want := 0
			if cursor >= 0 && cursor < count {
				want = count - cursor
			}
			if got := Left(apart, cursor); got != want {
				t.Error(count, cursor, got, want)
			}
		}
		checkKept(t, apart, draws)
	}
	if got := Left(nil, 0); got != 0 {
		t.Error(got)
	}
}

// P16.1: Needs, written out: n - 1, but 0 below 1, and beyond the orders that there are, too.
func TestNeeds(t *testing.T) {
	for _, row := range [][2]int{
		{math.MinInt, 0}, {math.MinInt + 1, 0}, {-1 << 32, 0}, {-400, 0}, {-2, 0}, {-1, 0}, {0, 0}, {1, 0}, {2, 1}, {3, 2}, {4, 3}, {60, 59},
		{399, 398}, {400, 399}, {401, 400}, {4097, 4096}, {1 << 32, 1<<32 - 1}, {math.MaxInt, math.MaxInt - 1},
	} {
		if got := Needs(row[0]); got != row[1] {
			t.Error(row, got)
		}
	}
	for n := 1; n <= 5000; n++ {
		if Needs(n) != n-1 || Needs(-n) != 0 || Needs(1-n) != 0 {
			t.Error(n, Needs(n), Needs(-n))
		}
	}
}
