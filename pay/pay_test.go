package pay

import (
	"math"
	"math/rand"
	"sort"
	"testing"

	"mulligan/api"
	"mulligan/mana"
)

// far are numbers that no cost has: just outside, and those that are wrapped around or cut off if they are reckoned with.
var far = []int{
	-1, -2, -1000, 1001, 1002, 2000, 1 << 16, 1 << 31, 1 << 32, 1<<32 + 1, -1 << 32, 1 << 62, math.MaxInt - 1, math.MaxInt, math.MinInt, math.MinInt + 1,
}

// near are numbers that a cost may have, the ends among them.
var near = []int{0, 1, 2, 9, 59, 60, 61, 255, 256, 499, 500, 501, 999, 1000}

// full is the greatest cost.
var full = api.Cost{1000, 1000, 1000, 1000, 1000, 1000}

// with is a cost with n in a place.
func with(c api.Cost, place, n int) api.Cost {
	c[place] = n
	return c
}

// isPayment tells by the chapter's words whether p is a payment of a cost out of a pool.
func isPayment(p, pool, cost api.Cost) bool {
	for place := range 6 {
		if p[place] < 0 || p[place] > 1000 || p[place] > pool[place] || place < 5 && p[place] < cost[place] {
			return false
		}
	}
	return p[0]+p[1]+p[2]+p[3]+p[4]+p[5] == cost[0]+cost[1]+cost[2]+cost[3]+cost[4]+cost[5]
}

// payments are all of them, looked for among all that is within the pool.
func payments(pool, cost api.Cost) []api.Cost {
	var all []api.Cost
	var p api.Cost
	var each func(place int)
	each = func(place int) {
		if place == 6 {
			if isPayment(p, pool, cost) {
				all = append(all, p)
			}
			return
		}
		for p[place] = 0; p[place] <= pool[place]; p[place]++ {
			each(place + 1)
		}
	}
	each(0)
	return all
}

// usually is the usual payment, if there is one: all that the colours leave stands in a row, the highest of each heap ahead, and is taken from the front.
func usually(pool, cost api.Cost) (paid api.Cost, ok bool) {
	type piece struct{ height, place int }
	var row []piece
	for place := range 5 {
		if cost[place] > pool[place] {
			return api.Cost{}, false
		}
		paid[place] = cost[place]
		for height := 1; height <= pool[place]-cost[place]; height++ {
			row = append(row, piece{height, place})
		}
	}
	for range pool[5] {
		row = append(row, piece{math.MaxInt, 5})
	}
	sort.Slice(row, func(i, j int) bool {
		if row[i].height != row[j].height {
			return row[i].height > row[j].height
		}
		return row[i].place < row[j].place
	})
	if len(row) < cost[5] {
		return api.Cost{}, false
	}
	for _, p := range row[:cost[5]] {
		paid[p.place]++
	}
	return paid, true
}

// choose is in how many ways five can be chosen out of n.
func choose(n int) int {
	if n < 5 {
		return 0
	}
	return n * (n - 1) * (n - 2) * (n - 3) * (n - 4) / 120
}

// reckoned is how many payments there are: those without bounds, less those above one bound, and those above two of them again, and so on.
func reckoned(pool, cost api.Cost) int {
	room := pool
	for place := range 5 {
		room[place] -= cost[place]
		if room[place] < 0 {
			return 0
		}
	}
	ways := 0
	for above := range 64 {
		left, sign := cost[5], 1
		for place := range 6 {
			if above>>place&1 == 1 {
				left -= room[place] + 1
				sign = -sign
			}
		}
		ways += sign * choose(left+5)
	}
	return ways
}

// checkPay holds Can and Pay against the usual payment, and that against what a payment is.
func checkPay(t *testing.T, pool, cost api.Cost) {
	t.Helper()
	want, ok := usually(pool, cost)
	rest, paid, err := Pay(pool, cost)
	if got := Can(pool, cost); got != ok {
		t.Fatalf("Can(%v, %v) = %v", pool, cost, got)
	}
	if !ok {
		if rest != (api.Cost{}) || paid != (api.Cost{}) || err != api.ErrCost {
			t.Fatalf("Pay(%v, %v) = %v, %v, %v", pool, cost, rest, paid, err)
		}
		return
	}
	if paid != want || err != nil || !isPayment(paid, pool, cost) {
		t.Fatalf("Pay(%v, %v) pays %v, %v, not %v", pool, cost, paid, err, want)
	}
	for place := range 6 {
		if rest[place] != pool[place]-paid[place] {
			t.Fatalf("Pay(%v, %v) leaves %v behind %v", pool, cost, rest, paid)
		}
	}
	if again, err := Sum(rest, paid); again != pool || err != nil {
		t.Fatalf("%v and %v are %v, %v, not %v", rest, paid, again, err, pool)
	}
}

// checkWays holds Ways against what is reckoned, and Can and Pay against Ways.
func checkWays(t *testing.T, pool, cost api.Cost) {
	t.Helper()
	ways, err := Ways(pool, cost)
	if want := reckoned(pool, cost); ways != want || err != nil {
		t.Fatalf("Ways(%v, %v) = %d, %v, not %d", pool, cost, ways, err, want)
	}
	_, _, err = Pay(pool, cost)
	if can := Can(pool, cost); can != (ways > 0) || can != (err == nil) {
		t.Fatalf("%d ways of %v out of %v: Can is %v, Pay answers %v", ways, cost, pool, can, err)
	}
}

// byHand are pools and costs by their texts, with what is paid, what is left, and how many ways there are, by hand.
var byHand = []struct {
	pool, cost, paid, rest string
	ways                   int
}{
	{"2WWU", "2W", "2W", "WU", 4},
	{"0", "0", "0", "0", 1},
	{"WUBRG", "0", "0", "WUBRG", 1},
	{"1000WUBRG", "0", "0", "1000WUBRG", 0},
	{"W", "W", "W", "0", 1},
	{"U", "1", "U", "0", 1},
	{"3", "3", "3", "0", 1},
	{"3", "1", "1", "2", 1},
	// Of several the first one, else the one of which the most is left.
	{"WU", "1", "W", "U", 2},
	{"WUBRG", "2", "WU", "BRG", 10},
	{"WUBRG", "4", "WUBR", "G", 5},
	{"WUBRG", "5", "WUBRG", "0", 1},
	{"WUU", "1", "U", "WU", 2},
	{"RRG", "1", "R", "RG", 2},
	{"RGG", "1", "G", "RG", 2},
	{"WUUU", "2", "UU", "WU", 2},
	{"WUUU", "3", "WUU", "U", 2},
	{"WUUGGG", "4", "WUGG", "UG", 5},
	// What has no colour ahead of the colours, as long as there is some.
	{"1WUUU", "1", "1", "WUUU", 3},
	{"1WUUU", "2", "1U", "WUU", 4},
	{"1WUUU", "3", "1UU", "WU", 4},
	{"2WWUUBBRRGG", "6", "2WUBR", "WUBRGG", 141},
	// The most is that which is left behind what is asked for of the colours.
	{"5WUBRG", "5WUBRG", "5WUBRG", "0", 1},
	{"WWW", "1W", "WW", "W", 1},
	{"WWWUU", "1W", "WW", "WUU", 2},
	{"WWWUUU", "1W", "WU", "WWUU", 2},
	{"RRRGGGG", "1GG", "RGG", "RRGG", 2},
}

// costOf is what a text says.
func costOf(t *testing.T, s string) api.Cost {
	t.Helper()
	c, err := mana.Parse(s)
	if err != nil {
		t.Fatalf("%q: %v", s, err)
	}
	return c
}

// P5.1 and P5.2: payments that are written out by hand.
func TestByHand(t *testing.T) {
	for _, c := range byHand {
		pool, cost := costOf(t, c.pool), costOf(t, c.cost)
		rest, paid, err := Pay(pool, cost)
		if rest != costOf(t, c.rest) || paid != costOf(t, c.paid) || err != nil || !Can(pool, cost) {
			t.Errorf("out of %s the cost %s: %v are left, %v are paid, %v", c.pool, c.cost, rest, paid, err)
		}
		ways, err := Ways(pool, cost)
		if c.ways == 0 {
			if ways != 0 || err != api.ErrRange {
				t.Errorf("out of %s the cost %s: %d ways, %v", c.pool, c.cost, ways, err)
			}
		} else if ways != c.ways || err != nil {
			t.Errorf("out of %s the cost %s: %d ways, %v, not %d", c.pool, c.cost, ways, err, c.ways)
		}
	}
}

// P5.1 and P5.2: costs that can't be paid, written out by hand: what has no colour pays for none, and a colour for no other.
func TestNoPayment(t *testing.T) {
	for _, c := range []struct{ pool, cost string }{
		{"0", "1"}, {"0", "W"}, {"0", "1000"}, {"W", "U"}, {"U", "W"}, {"WW", "WWW"}, {"60", "G"}, {"1W", "WW"}, {"WU", "3"}, {"WU", "2W"},
		{"2WWU", "4WW"}, {"WUBR", "G"}, {"UBRG", "W"}, {"WUBRG", "6"}, {"WUBRG", "1WUBRG"}, {"4GGGG", "1GGGGG"},
	} {
		pool, cost := costOf(t, c.pool), costOf(t, c.cost)
		rest, paid, err := Pay(pool, cost)
		ways, none := Ways(pool, cost)
		if rest != (api.Cost{}) || paid != (api.Cost{}) || err != api.ErrCost || ways != 0 || none != nil || Can(pool, cost) {
			t.Errorf("out of %s the cost %s: %v, %v, %v; %d ways, %v; Can is %v", c.pool, c.cost, rest, paid, err, ways, none, Can(pool, cost))
		}
	}
}

// P5.2: what is reckoned, and the calls, against all payments that there are, of all small pools and costs.
func TestSmall(t *testing.T) {
	var pool, cost api.Cost
	var each func(place int)
	each = func(place int) {
		if place < 12 {
			c, most := &pool, 2
			if place >= 6 {
				c, most = &cost, 1
			}
			if place == 11 {
				most = 9
			}
			for n := range most + 1 {
				c[place%6] = n
				each(place + 1)
			}
			return
		}
		all := payments(pool, cost)
		if len(all) != reckoned(pool, cost) {
			t.Fatalf("of %v out of %v there are %d payments", cost, pool, len(all))
		}
		checkWays(t, pool, cost)
		checkPay(t, pool, cost)
	}
	each(0)
}

// P5.1 and P5.2: pools of up to 60 in all, and costs about what they can pay.
func TestUpTo60(t *testing.T) {
	r := rand.New(rand.NewSource(5))
	for range 20000 {
		var pool, cost api.Cost
		for range r.Intn(61) {
			pool[r.Intn(6)]++
		}
		for colour := range 5 {
			cost[colour] = r.Intn(pool[colour]/(1+r.Intn(4)) + 1)
		}
		cost[5] = r.Intn(mana.Total(pool) - mana.Total(cost) + 2)
		if r.Intn(10) == 0 {
			cost[r.Intn(6)] += r.Intn(3)
		}
		checkWays(t, pool, cost)
		checkPay(t, pool, cost)
	}
	// The pools with the most ways, and those of one kind.
	for owed := range 62 {
		checkWays(t, api.Cost{10, 10, 10, 10, 10, 10}, api.Cost{5: owed})
		checkWays(t, api.Cost{9, 11, 10, 12, 8, 10}, api.Cost{1, 2, 0, 3, 0, owed})
		for place := range 6 {
			checkWays(t, with(api.Cost{}, place, 60), api.Cost{5: owed})
			checkWays(t, with(with(api.Cost{}, place, 29), (place+1)%6, 31), api.Cost{5: owed})
			checkWays(t, with(api.Cost{10, 10, 10, 10, 10, 10}, place, 5), with(api.Cost{}, place, owed))
		}
	}
	if ways, err := Ways(api.Cost{10, 10, 10, 10, 10, 10}, api.Cost{5: 30}); ways != 88913 || err != nil {
		t.Errorf("ten of each, and 30 to be paid: %d ways, %v", ways, err)
	}
}

// P5.1: Ways of pools about 60 in all: ErrRange above, whether there is a payment or not, however great the cost is.
func TestWaysRange(t *testing.T) {
	costs := []api.Cost{{}, {5: 1}, {1, 1, 1, 1, 1, 1}, {5: 60}, {5: 61}, {5: 1000}, {1000}, {4: 1000}, full}
	pools := []api.Cost{full, {1000}, {5: 1000}, {20, 20, 20, 1, 0, 0}, {0, 0, 0, 1, 30, 30}, {60, 0, 0, 0, 0, 1}, {10, 10, 10, 10, 10, 11}, {11, 10, 10, 10, 10, 10}}
	for place := range 6 {
		for n := range 61 {
			pools = append(pools, with(with(api.Cost{}, place, n), (place+1)%6, 61-n), with(with(api.Cost{}, place, n), (place+2)%6, 1000-n))
		}
	}
	for _, cost := range costs {
		for _, pool := range pools {
			if ways, err := Ways(pool, cost); ways != 0 || err != api.ErrRange {
				t.Errorf("Ways(%v, %v) = %d, %v", pool, cost, ways, err)
			}
		}
		for place := range 6 {
			for n := range 61 {
				checkWays(t, with(with(api.Cost{}, place, n), (place+1)%6, 60-n), cost)
			}
		}
	}
}

// P5.1 and P5.2: the usual payment out of pools of any size, and costs about what they can pay.
func TestUsual(t *testing.T) {
	r := rand.New(rand.NewSource(7))
	number := func(most int) int {
		switch r.Intn(4) {
		case 0:
			return most
		case 1:
			return min(most, near[r.Intn(len(near))])
		case 2:
			return min(most, r.Intn(5))
		}
		return r.Intn(most + 1)
	}
	for range 3000 {
		var pool, cost api.Cost
		for place := range 6 {
			pool[place] = number(1000)
		}
		for colour := range 5 {
			cost[colour] = number(pool[colour])
		}
		cost[5] = min(1000, number(mana.Total(pool)-mana.Total(cost)))
		checkPay(t, pool, cost)
		// A little more than there is.
		place := r.Intn(6)
		checkPay(t, pool, with(cost, place, min(1000, pool[place]+1)))
	}
	checkPay(t, full, full)
	for place := range 6 {
		for _, n := range near {
			checkPay(t, with(full, place, n), full)
			checkPay(t, full, with(full, place, n))
			checkPay(t, with(api.Cost{}, place, n), with(api.Cost{}, place, n))
			checkPay(t, with(api.Cost{}, place, n), api.Cost{5: n})
			checkPay(t, with(api.Cost{}, place, n), api.Cost{5: min(1000, n+1)})
			checkPay(t, with(api.Cost{5: 5}, place, n), api.Cost{5: n})
			for other := range 6 {
				checkPay(t, with(api.Cost{}, place, n), with(api.Cost{}, other, n))
				checkPay(t, with(api.Cost{}, place, n), with(api.Cost{}, other, min(1000, n+1)))
			}
		}
	}
}

// P5.1: what is no pool or no cost: ErrForm of all calls, ahead of all else.
func TestForm(t *testing.T) {
	for place := range 6 {
		for _, n := range far {
			for _, beside := range []api.Cost{{}, {1, 2, 3, 4, 5, 6}, {30, 30, 30, 30, 30, 30}, full} {
				wrong := with(beside, place, n)
				for _, other := range []api.Cost{{}, {1, 1, 1, 1, 1, 1}, full, wrong, with(beside, (place+1)%6, -n), with(wrong, place, -n)} {
					checkForm(t, wrong, other)
					checkForm(t, other, wrong)
				}
			}
		}
	}
}

// checkForm asks that all calls tell that one of two isn't good.
func checkForm(t *testing.T, a, b api.Cost) {
	t.Helper()
	if Can(a, b) {
		t.Errorf("Can(%v, %v)", a, b)
	}
	if rest, paid, err := Pay(a, b); rest != (api.Cost{}) || paid != (api.Cost{}) || err != api.ErrForm {
		t.Errorf("Pay(%v, %v) = %v, %v, %v", a, b, rest, paid, err)
	}
	if ways, err := Ways(a, b); ways != 0 || err != api.ErrForm {
		t.Errorf("Ways(%v, %v) = %d, %v", a, b, ways, err)
	}
	if sum, err := Sum(a, b); sum != (api.Cost{}) || err != api.ErrForm {
		t.Errorf("Sum(%v, %v) = %v, %v", a, b, sum, err)
	}
}

// P5.1: Sum of all numbers about the ends at each place, beside others.
func TestSum(t *testing.T) {
	for place := range 6 {
		for _, beside := range [][2]api.Cost{{{}, {}}, {{1, 2, 3, 4, 5, 6}, {10, 20, 30, 40, 50, 60}}, {full, {}}, {{}, full}, {{500, 501, 0, 999, 1, 250}, {500, 499, 1000, 1, 999, 750}}} {
			for _, n := range near {
				for _, m := range append([]int{1000 - n, max(0, 999-n), min(1000, 1001-n)}, near...) {
					a, b := with(beside[0], place, n), with(beside[1], place, m)
					got, err := Sum(a, b)
					if n+m > 1000 {
						if got != (api.Cost{}) || err != api.ErrRange {
							t.Errorf("Sum(%v, %v) = %v, %v", a, b, got, err)
						}
						continue
					}
					want := with(api.Cost{}, place, n+m)
					for other := range 6 {
						if other != place {
							want[other] = a[other] + b[other]
						}
					}
					if got != want || err != nil {
						t.Errorf("Sum(%v, %v) = %v, %v, not %v", a, b, got, err, want)
					}
				}
			}
		}
	}
}
