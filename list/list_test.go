package list

import (
	"math"
	"math/rand"
	"slices"
	"testing"

	"mulligan/api"
)

// far are numbers that are places of no list here: those that are wrapped around or cut off if they are reckoned with.
var far = []int{
	-1 << 8, 1 << 8, -1 << 16, 1 << 16, -1 << 31, 1 << 31, 1<<31 - 1, -1 << 32, 1 << 32, 1<<32 + 1, 1<<32 + 2, -1 << 62, 1 << 62,
	math.MaxInt - 1, math.MaxInt, math.MinInt, math.MinInt + 1,
}

// ends are numbers that a list may hold as well as any other.
var ends = []int{math.MinInt, math.MinInt + 1, -1 << 32, -1, 0, 1, 1 << 32, math.MaxInt - 1, math.MaxInt}

// mark stands in the spare room of what is handed in.
const mark = -777

// roomy is a list with spare room, in which marks stand.
func roomy(list []int) []int {
	whole := slices.Concat(list, []int{mark, mark, mark, mark})
	return whole[:len(list)]
}

// isRoomy tells whether a roomy list is as it was, with its spare room.
func isRoomy(list, was []int) bool {
	whole := list[:cap(list)]
	return slices.Equal(list, was) && slices.Equal(whole[len(list):len(list)+4], []int{mark, mark, mark, mark})
}

// checkApart asks that a roomy argument is as it was, and that it and the answer share no memory.
func checkApart(t *testing.T, call string, argument, was, answer []int) {
	t.Helper()
	if !isRoomy(argument, was) {
		t.Fatalf("%s changed %v to %v, or its spare room", call, was, argument)
	}
	told := slices.Clone(answer)
	whole := answer[:cap(answer)]
	for i := range whole {
		whole[i]++
	}
	if !isRoomy(argument, was) {
		t.Fatalf("%s of %v: the answer is the argument's memory", call, was)
	}
	copy(answer, told)
	for i := range argument[:cap(argument)] {
		argument[:cap(argument)][i]--
	}
	if !slices.Equal(answer, told) {
		t.Fatalf("%s of %v: the answer hangs on the argument's memory", call, was)
	}
	copy(argument[:cap(argument)], roomy(was)[:len(was)+4])
}

// allLists goes through all lists of up to a length, of numbers from 0 to below a bound.
func allLists(length, bound int, visit func(list []int)) {
	var list []int
	var each func()
	each = func() {
		visit(slices.Clone(list))
		if len(list) == length {
			return
		}
		for n := range bound {
			list = append(list, n)
			each()
			list = list[:len(list)-1]
		}
	}
	each()
}

// numbered is a list of so many numbers, each of which stands once.
func numbered(n int) []int {
	var list []int
	for i := range n {
		list = append(list, 100+7*i)
	}
	return list
}

// places are all places of a list of so many numbers, those just outside, and far ones.
func places(n int) []int {
	list := slices.Clone(far)
	for at := -n - 3; at <= 2*n+3; at++ {
		list = append(list, at)
	}
	return list
}

// inserted is what Insert is to answer, place by place.
func inserted(list []int, at, x int) ([]int, error) {
	if at < 0 || at > len(list) {
		return nil, api.ErrRange
	}
	want := make([]int, len(list)+1)
	for i := range want {
		switch {
		case i < at:
			want[i] = list[i]
		case i == at:
			want[i] = x
		default:
			want[i] = list[i-1]
		}
	}
	return want, nil
}

// removed is what Remove is to answer.
func removed(list []int, at int) ([]int, int, error) {
	if at < 0 || at >= len(list) {
		return nil, 0, api.ErrRange
	}
	var want []int
	for i, x := range list {
		if i != at {
			want = append(want, x)
		}
	}
	return want, list[at], nil
}

// moved is what Move is to answer: what stands between steps aside by one place.
func moved(list []int, from, to int) ([]int, error) {
	if from < 0 || from >= len(list) || to < 0 || to >= len(list) {
		return nil, api.ErrRange
	}
	want := slices.Clone(list)
	for at := from; at < to; at++ {
		want[at], want[at+1] = want[at+1], want[at]
	}
	for at := from; at > to; at-- {
		want[at], want[at-1] = want[at-1], want[at]
	}
	return want, nil
}

// dealt is what Deal is to answer: each place is looked for in the order, and stands there once.
func dealt(list, order []int) ([]int, error) {
	if len(order) != len(list) {
		return nil, api.ErrForm
	}
	for place := range list {
		times := 0
		for _, from := range order {
			if from == place {
				times++
			}
		}
		if times != 1 {
			return nil, api.ErrForm
		}
	}
	var want []int
	for _, from := range order {
		want = append(want, list[from])
	}
	return want, nil
}

// checkInsert holds Insert against what it is to answer, and takes out again what was inserted.
func checkInsert(t *testing.T, list []int, at, x int) {
	t.Helper()
	argument := roomy(list)
	got, err := Insert(argument, at, x)
	want, wantErr := inserted(list, at, x)
	if !slices.Equal(got, want) || err != wantErr {
		t.Fatalf("Insert(%v, %d, %d) = %v, %v, not %v, %v", list, at, x, got, err, want, wantErr)
	}
	if err == nil {
		back, there, err := Remove(got, at)
		if !slices.Equal(back, list) || there != x || err != nil {
			t.Fatalf("Remove(Insert(%v, %d, %d), %d) = %v, %d, %v", list, at, x, at, back, there, err)
		}
	}
	checkApart(t, "Insert", argument, list, got)
}

// checkRemove holds Remove against what it is to answer, and inserts again what was removed.
func checkRemove(t *testing.T, list []int, at int) {
	t.Helper()
	argument := roomy(list)
	got, x, err := Remove(argument, at)
	want, wantX, wantErr := removed(list, at)
	if !slices.Equal(got, want) || x != wantX || err != wantErr {
		t.Fatalf("Remove(%v, %d) = %v, %d, %v, not %v, %d, %v", list, at, got, x, err, want, wantX, wantErr)
	}
	if err == nil {
		back, err := Insert(got, at, x)
		if !slices.Equal(back, list) || err != nil {
			t.Fatalf("Insert(Remove(%v, %d), %d) = %v, %v", list, at, at, back, err)
		}
	}
	checkApart(t, "Remove", argument, list, got)
}

// checkMove holds Move against what it is to answer.
func checkMove(t *testing.T, list []int, from, to int) {
	t.Helper()
	argument := roomy(list)
	got, err := Move(argument, from, to)
	want, wantErr := moved(list, from, to)
	if !slices.Equal(got, want) || err != wantErr {
		t.Fatalf("Move(%v, %d, %d) = %v, %v, not %v, %v", list, from, to, got, err, want, wantErr)
	}
	checkApart(t, "Move", argument, list, got)
}

// checkDeal holds Deal against what it is to answer.
func checkDeal(t *testing.T, list, order []int) {
	t.Helper()
	argument, orders := roomy(list), roomy(order)
	got, err := Deal(argument, orders)
	want, wantErr := dealt(list, order)
	if !slices.Equal(got, want) || err != wantErr {
		t.Fatalf("Deal(%v, %v) = %v, %v, not %v, %v", list, order, got, err, want, wantErr)
	}
	if err != nil && got != nil {
		t.Fatalf("Deal(%v, %v): a list beside %v", list, order, err)
	}
	checkApart(t, "Deal", argument, list, got)
	checkApart(t, "Deal", orders, order, got)
}

// checkReversed holds Reversed against the list, place by place.
func checkReversed(t *testing.T, list []int) {
	t.Helper()
	argument := roomy(list)
	got := Reversed(argument)
	if len(got) != len(list) {
		t.Fatalf("Reversed(%v) = %v", list, got)
	}
	for i, x := range got {
		if x != list[len(list)-1-i] {
			t.Fatalf("Reversed(%v) = %v", list, got)
		}
	}
	if !slices.Equal(Reversed(got), list) {
		t.Fatalf("%v isn't itself, reversed twice", list)
	}
	checkApart(t, "Reversed", argument, list, got)
}

// checkAsked holds Index and Once against what they are to answer.
func checkAsked(t *testing.T, list []int, numbers []int) {
	t.Helper()
	argument := roomy(list)
	for _, x := range numbers {
		want := -1
		for at := len(list) - 1; at >= 0; at-- {
			if list[at] == x {
				want = at
			}
		}
		if got := Index(argument, x); got != want {
			t.Fatalf("Index(%v, %d) = %d, not %d", list, x, got, want)
		}
	}
	want := true
	for i := range list {
		for j := range i {
			want = want && list[i] != list[j]
		}
	}
	if got := Once(argument); got != want {
		t.Fatalf("Once(%v) = %v", list, got)
	}
	checkApart(t, "Index or Once", argument, list, nil)
}

// P9.1: Insert, written out.
func TestInsertByHand(t *testing.T) {
	for _, c := range []struct {
		list  []int
		at, x int
		want  []int
		err   error
	}{
		{nil, 0, 7, []int{7}, nil},
		{[]int{}, 0, 7, []int{7}, nil},
		{[]int{1, 2, 3}, 0, 9, []int{9, 1, 2, 3}, nil},
		{[]int{1, 2, 3}, 1, 9, []int{1, 9, 2, 3}, nil},
		{[]int{1, 2, 3}, 2, 9, []int{1, 2, 9, 3}, nil},
		{[]int{1, 2, 3}, 3, 9, []int{1, 2, 3, 9}, nil},
		{[]int{5, 5}, 1, 5, []int{5, 5, 5}, nil},
		{[]int{1}, 1, -1, []int{1, -1}, nil},
		{[]int{1, 2, 3}, 4, 9, nil, api.ErrRange},
		{[]int{1, 2, 3}, -1, 9, nil, api.ErrRange},
		{nil, 1, 9, nil, api.ErrRange},
		{nil, -1, 9, nil, api.ErrRange},
	} {
		if got, err := Insert(c.list, c.at, c.x); !slices.Equal(got, c.want) || err != c.err {
			t.Errorf("Insert(%v, %d, %d) = %v, %v", c.list, c.at, c.x, got, err)
		}
	}
}

// P9.1: Remove, written out.
func TestRemoveByHand(t *testing.T) {
	for _, c := range []struct {
		list []int
		at   int
		want []int
		x    int
		err  error
	}{
		{[]int{7}, 0, nil, 7, nil},
		{[]int{1, 2, 3}, 0, []int{2, 3}, 1, nil},
		{[]int{1, 2, 3}, 1, []int{1, 3}, 2, nil},
		{[]int{1, 2, 3}, 2, []int{1, 2}, 3, nil},
		{[]int{5, 0, 5}, 1, []int{5, 5}, 0, nil},
		{[]int{1, 2, 3}, 3, nil, 0, api.ErrRange},
		{[]int{1, 2, 3}, -1, nil, 0, api.ErrRange},
		{[]int{7}, 1, nil, 0, api.ErrRange},
		{nil, 0, nil, 0, api.ErrRange},
		{[]int{}, 0, nil, 0, api.ErrRange},
		{nil, -1, nil, 0, api.ErrRange},
	} {
		if got, x, err := Remove(c.list, c.at); !slices.Equal(got, c.want) || x != c.x || err != c.err {
			t.Errorf("Remove(%v, %d) = %v, %d, %v", c.list, c.at, got, x, err)
		}
	}
}

// P9.1: Move, written out; the first is the chapter's example.
func TestMoveByHand(t *testing.T) {
	for _, c := range []struct {
		list     []int
		from, to int
		want     []int
		err      error
	}{
		{[]int{1, 2, 3}, 0, 2, []int{2, 3, 1}, nil},
		{[]int{1, 2, 3}, 2, 0, []int{3, 1, 2}, nil},
		{[]int{1, 2, 3}, 0, 1, []int{2, 1, 3}, nil},
		{[]int{1, 2, 3}, 1, 0, []int{2, 1, 3}, nil},
		{[]int{1, 2, 3}, 1, 1, []int{1, 2, 3}, nil},
		{[]int{1, 2, 3, 4, 5}, 1, 3, []int{1, 3, 4, 2, 5}, nil},
		{[]int{1, 2, 3, 4, 5}, 3, 1, []int{1, 4, 2, 3, 5}, nil},
		{[]int{7}, 0, 0, []int{7}, nil},
		// Behind the last one there is room for an insertion, but no place.
		{[]int{1, 2, 3}, 0, 3, nil, api.ErrRange},
		{[]int{1, 2, 3}, 3, 0, nil, api.ErrRange},
		{[]int{1, 2, 3}, 3, 3, nil, api.ErrRange},
		{[]int{1, 2, 3}, -1, 0, nil, api.ErrRange},
		{[]int{1, 2, 3}, 0, -1, nil, api.ErrRange},
		{[]int{7}, 0, 1, nil, api.ErrRange},
		{nil, 0, 0, nil, api.ErrRange},
		{[]int{}, 0, 0, nil, api.ErrRange},
	} {
		if got, err := Move(c.list, c.from, c.to); !slices.Equal(got, c.want) || err != c.err {
			t.Errorf("Move(%v, %d, %d) = %v, %v", c.list, c.from, c.to, got, err)
		}
	}
}

// P9.1: Deal, written out.
func TestDealByHand(t *testing.T) {
	for _, c := range []struct {
		list, order, want []int
		err               error
	}{
		{nil, nil, nil, nil},
		{[]int{}, nil, nil, nil},
		{nil, []int{}, nil, nil},
		{[]int{7}, []int{0}, []int{7}, nil},
		{[]int{7, 8, 9}, []int{0, 1, 2}, []int{7, 8, 9}, nil},
		// Place i has what stood at order's i, and not the other way round.
		{[]int{7, 8, 9}, []int{1, 2, 0}, []int{8, 9, 7}, nil},
		{[]int{7, 8, 9}, []int{2, 0, 1}, []int{9, 7, 8}, nil},
		{[]int{5, 5, 6}, []int{2, 1, 0}, []int{6, 5, 5}, nil},
		{nil, []int{0}, nil, api.ErrForm},
		{[]int{7}, nil, nil, api.ErrForm},
		{[]int{7}, []int{1}, nil, api.ErrForm},
		{[]int{7}, []int{-1}, nil, api.ErrForm},
		{[]int{7, 8, 9}, []int{0, 1}, nil, api.ErrForm},
		{[]int{7, 8, 9}, []int{0, 1, 2, 2}, nil, api.ErrForm},
		{[]int{7, 8, 9}, []int{0, 1, 2, 3}, nil, api.ErrForm},
		{[]int{7, 8, 9}, []int{0, 1, 1}, nil, api.ErrForm},
		{[]int{7, 8, 9}, []int{0, 0, 2}, nil, api.ErrForm},
		{[]int{7, 8, 9}, []int{1, 1, 2}, nil, api.ErrForm},
		{[]int{7, 8, 9}, []int{0, 1, 3}, nil, api.ErrForm},
		{[]int{7, 8, 9}, []int{-1, 0, 1}, nil, api.ErrForm},
		{[]int{7, 8, 9}, []int{7, 8, 9}, nil, api.ErrForm},
	} {
		if got, err := Deal(c.list, c.order); !slices.Equal(got, c.want) || err != c.err {
			t.Errorf("Deal(%v, %v) = %v, %v", c.list, c.order, got, err)
		}
	}
}

// P9.1: Index, Once and Reversed, written out.
func TestAskedByHand(t *testing.T) {
	for _, c := range []struct {
		list     []int
		x, index int
		once     bool
		reversed []int
	}{
		{nil, 0, -1, true, nil},
		{[]int{}, 0, -1, true, nil},
		{[]int{0}, 0, 0, true, []int{0}},
		{[]int{7}, 0, -1, true, []int{7}},
		{[]int{-1}, -1, 0, true, []int{-1}},
		{[]int{1, 2, 3}, 3, 2, true, []int{3, 2, 1}},
		{[]int{1, 2, 3}, 4, -1, true, []int{3, 2, 1}},
		{[]int{5, 5}, 5, 0, false, []int{5, 5}},
		{[]int{1, 5, 2, 5}, 5, 1, false, []int{5, 2, 5, 1}},
		{[]int{0, 1, 2, 0}, 2, 2, false, []int{0, 2, 1, 0}},
		{[]int{1, -1}, -1, 1, true, []int{-1, 1}},
		{[]int{1 << 32, 0}, 0, 1, true, []int{0, 1 << 32}},
		{[]int{math.MinInt, math.MaxInt}, math.MaxInt, 1, true, []int{math.MaxInt, math.MinInt}},
		{[]int{math.MinInt, 0, math.MinInt}, math.MinInt, 0, false, []int{math.MinInt, 0, math.MinInt}},
	} {
		index, once, reversed := Index(c.list, c.x), Once(c.list), Reversed(c.list)
		if index != c.index || once != c.once || !slices.Equal(reversed, c.reversed) {
			t.Errorf("%v: Index of %d is %d, Once %v, Reversed %v", c.list, c.x, index, once, reversed)
		}
	}
}

// P9.1 and P9.2: all calls at all short lists, each place, those just outside, and far ones.
func TestShortLists(t *testing.T) {
	allLists(5, 3, func(list []int) {
		at := places(len(list))
		for _, from := range at {
			checkInsert(t, list, from, 1)
			checkInsert(t, list, from, 9)
			checkRemove(t, list, from)
		}
		for from := -2; from <= len(list)+2; from++ {
			for to := -2; to <= len(list)+2; to++ {
				checkMove(t, list, from, to)
			}
		}
		checkReversed(t, list)
		checkAsked(t, list, append(at, ends...))
	})
}

// P9.1 and P9.2: places of longer lists, each number of which tells where it stood.
func TestPlaces(t *testing.T) {
	for _, n := range []int{0, 1, 2, 7, 8, 9, 31, 32, 33, 64} {
		list := numbered(n)
		at := places(n)
		for _, from := range at {
			checkInsert(t, list, from, -5)
			checkRemove(t, list, from)
			for _, to := range at {
				checkMove(t, list, from, to)
			}
		}
		checkReversed(t, list)
		checkAsked(t, list, append(at, list...))
	}
}

// P9.1 and P9.2: numbers at the ends stand in lists as others do.
func TestEnds(t *testing.T) {
	for _, x := range ends {
		for at := range len(ends) + 1 {
			checkInsert(t, ends, at, x)
			twice, err := Insert(ends, at, x)
			if err != nil || Once(twice) {
				t.Errorf("Once(%v), %v", twice, err)
			}
			checkAsked(t, twice, append(ends, far...))
			checkReversed(t, twice)
		}
	}
	for from := range ends {
		checkRemove(t, ends, from)
		for to := range ends {
			checkMove(t, ends, from, to)
		}
	}
	checkAsked(t, ends, append(ends, far...))
}

// P9.1: Deal by all orders of up to five places, and by all that are none, with numbers just outside among them.
func TestAllOrders(t *testing.T) {
	for n := range 6 {
		right := 0
		allLists(n+1, n+2, func(numbers []int) {
			// From -1 on, up to what is just behind the last place.
			order := make([]int, len(numbers))
			for i, x := range numbers {
				order[i] = x - 1
			}
			checkDeal(t, numbered(n), order)
			if _, err := Deal(numbered(n), order); err == nil {
				right++
			}
		})
		if want := []int{1, 1, 2, 6, 24, 120}[n]; right != want {
			t.Errorf("%d orders of %d places, not %d", right, n, want)
		}
	}
}

// P9.1: Deal by long orders, and by those of which one number is another one.
func TestLongOrders(t *testing.T) {
	r := rand.New(rand.NewSource(9))
	for range 400 {
		n := 1 + r.Intn(120)
		list, order := numbered(n), r.Perm(n)
		checkDeal(t, list, order)
		for _, wrong := range append([]int{-1, -n, n, n + 1, 2 * n, list[0], order[r.Intn(n)]}, far...) {
			at := r.Intn(n)
			other := slices.Clone(order)
			other[at] = wrong
			checkDeal(t, list, other)
		}
		checkDeal(t, list, order[:n-1])
		checkDeal(t, list[:n-1], order)
		checkDeal(t, list, append(slices.Clone(order), order[0]))
		checkDeal(t, list, append(slices.Clone(order), n))
	}
}

// P9.1: a list that is its own order, and an order and a list that stand in one another's spare room.
func TestDealOfOneMemory(t *testing.T) {
	own := []int{2, 0, 1, 3}
	got, err := Deal(own, own)
	if !slices.Equal(got, []int{1, 2, 0, 3}) || err != nil || !slices.Equal(own, []int{2, 0, 1, 3}) {
		t.Errorf("%v, %v; the list is %v", got, err, own)
	}
	whole := []int{5, 6, 7, 2, 1, 0}
	got, err = Deal(whole[:3], whole[3:])
	if !slices.Equal(got, []int{7, 6, 5}) || err != nil || !slices.Equal(whole, []int{5, 6, 7, 2, 1, 0}) {
		t.Errorf("%v, %v; the whole is %v", got, err, whole)
	}
	got, err = Insert(whole[:3], 1, 9)
	if !slices.Equal(got, []int{5, 9, 6, 7}) || err != nil || !slices.Equal(whole, []int{5, 6, 7, 2, 1, 0}) {
		t.Errorf("%v, %v; the whole is %v", got, err, whole)
	}
}

// P9.1: of long lists two equal numbers are found wherever they stand, the first place of several is told, and all is turned.
func TestLongLists(t *testing.T) {
	r := rand.New(rand.NewSource(10))
	for range 100 {
		n := 2 + r.Intn(400)
		list := r.Perm(n)
		for i := range list {
			list[i] = (list[i] - n/2) * (1 << 40)
		}
		checkAsked(t, list, append([]int{1, list[0] + 1}, list...))
		checkReversed(t, list)
		from, to := r.Intn(n), r.Intn(n)
		checkMove(t, list, from, to)
		checkInsert(t, list, from, list[to])
		checkRemove(t, list, from)
		list[from] = list[to]
		checkAsked(t, list, []int{list[to], 1})
	}
	great := make([]int, 100000)
	for i := range great {
		great[i] = 7 * (len(great) - i)
	}
	if !Once(great) || Index(great, 7) != len(great)-1 || Index(great, 8) != -1 {
		t.Error("a great list without equal numbers")
	}
	great[len(great)-1] = great[0]
	if Once(great) || Index(great, great[0]) != 0 {
		t.Error("a great list whose first number is its last one, too")
	}
}

// P9.2: many numbers are inserted, and removed again from the last one on; each list on the way is met again.
func TestThereAndBack(t *testing.T) {
	r := rand.New(rand.NewSource(11))
	for range 100 {
		list := numbered(r.Intn(5))
		var on [][]int
		var at, x []int
		for range 60 {
			place, number := r.Intn(len(list)+1), ends[r.Intn(len(ends))]
			on, at, x = append(on, list), append(at, place), append(x, number)
			more, err := Insert(list, place, number)
			if err != nil {
				t.Fatal(err)
			}
			list = more
		}
		for i := len(on) - 1; i >= 0; i-- {
			less, there, err := Remove(list, at[i])
			if !slices.Equal(less, on[i]) || there != x[i] || err != nil {
				t.Fatalf("%v without place %d: %v, %d, %v", list, at[i], less, there, err)
			}
			list = less
		}
	}
}

// P9.1: a move is a removal and an insertion, and a move back leads back.
func TestMoveIsRemoveAndInsert(t *testing.T) {
	list := numbered(12)
	for from := range list {
		for to := range list {
			rest, x, err := Remove(list, from)
			want, again := Insert(rest, to, x)
			got, third := Move(list, from, to)
			if !slices.Equal(got, want) || err != nil || again != nil || third != nil {
				t.Fatalf("Move(%v, %d, %d) = %v, not %v", list, from, to, got, want)
			}
			if back, err := Move(got, to, from); !slices.Equal(back, list) || err != nil {
				t.Fatalf("Move(%v, %d, %d) = %v, %v", got, to, from, back, err)
			}
		}
	}
}

// Ways: places are asked of lists of whatever, not of numbers alone.
func TestOfWhatever(t *testing.T) {
	words := []string{"b", "a", "b"}
	pairs := [][2]int{{1, 2}, {2, 1}}
	if first(words, "b") != 0 || first(words, "a") != 1 || first(words, "") != -1 || first([]bool{true, false}, false) != 1 || first(pairs, [2]int{2, 1}) != 1 {
		t.Error("a first place isn't told")
	}
	if has(words, -1) || !has(words, 0) || !has(words, 2) || has(words, 3) || has(pairs, 2) || has([]error(nil), 0) {
		t.Error("whether there is a place isn't told")
	}
}
