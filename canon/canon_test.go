package canon

import (
	"bytes"
	"hash/fnv"
	"math"
	"math/big"
	"math/rand"
	"slices"
	"testing"

	"mulligan/api"
	"mulligan/pack"
	"mulligan/state"
	"mulligan/wire"
)

// edges are numbers about the ends of what a state's numbers, counts and heads may be, and far off.
var edges = []int{
	math.MinInt, math.MinInt + 1, -1 << 62, -1 << 32, -1<<31 - 1, -1 << 31, -1<<30 - 1, -1 << 30, -65, -64, -3, -2, -1,
	0, 1, 2, 3, 4, 5, 7, 8, 10, 11, 12, 63, 64, 119, 120, 255, 256, 399, 400, 401, 1000, 1001, 1024, 4096, 4097, 8191, 8192,
	1<<21 - 1, 1 << 21, 1<<30 - 1, 1 << 30, 1<<30 + 1, 1<<31 - 1, 1 << 31, 1<<32 - 1, 1 << 32, 1<<32 + 1, 1<<32 + 400, 1<<33 - 1, 1 << 53,
	1 << 62, math.MaxInt - 1, math.MaxInt,
}

// wrongNumbers are bytes that no number's bytes begin with.
var wrongNumbers = [][]byte{
	{128, 0}, {255, 0}, {129, 128, 0}, append(bytes.Repeat([]byte{255}, 9), 2), bytes.Repeat([]byte{255}, 10), append(bytes.Repeat([]byte{128}, 9), 0),
}

// written is the bytes of numbers, by layer 2's words.
func written(numbers ...int) []byte {
	var b []byte
	for _, n := range numbers {
		x := uint64(n) * 2
		if n < 0 {
			x = uint64(-(n+1))*2 + 1
		}
		for x >= 128 {
			b = append(b, byte(128+x%128))
			x /= 128
		}
		b = append(b, byte(x))
	}
	return b
}

// headOf is the head of an object, by layer 3's words: each part's worth.
func headOf(o api.Object) int {
	return o[api.FOwner] + 2*o[api.FControl] + 4*o[api.FZone] + 64*o[api.FTapped] + 128*o[api.FSick] + 256*o[api.FAttack] +
		512*o[api.FKind] + 2048*o[api.FKnows] + 8192*o[api.FWords]
}

// numbersOf are all numbers that a state's bytes tell, by the chapter's words.
func numbersOf(s api.State) []int {
	numbers := []int{len(s.Objects)}
	for _, o := range s.Objects {
		numbers = append(numbers, headOf(o), o[0], o[6], o[7], o[8], o[9], o[12], o[14], o[15], o[16])
	}
	for zone := range 11 {
		numbers = append(append(numbers, len(s.Lists[zone])), s.Lists[zone]...)
	}
	numbers = append(append(numbers, s.Players[0][:]...), s.Players[1][:]...)
	return append(numbers, s.Game[:]...)
}

// reckoned is what Parse is to answer, by the chapter's words: the first thing that is wrong is thrown, and caught here.
func reckoned(b []byte) (s api.State, err error) {
	defer func() {
		switch wrong := recover().(type) {
		case nil:
		case api.Errno:
			s, err = api.State{}, wrong
		default:
			panic(wrong)
		}
	}()
	throw := func(wrong bool, err error) {
		if wrong {
			panic(err)
		}
	}
	take := func() int {
		n, behind, err := wire.Take(b)
		throw(err != nil, err)
		b = behind
		return n
	}
	count := take()
	throw(count < 0, api.ErrRange)
	throw(count > 400, api.ErrFull)
	for range count {
		head := take()
		throw(head < 0 || head >= 4294967296, api.ErrRange)
		var rest [9]int
		for i := range 9 {
			rest[i] = take()
		}
		o, err := pack.Object(uint32(head), rest)
		throw(err != nil, err)
		s.Objects = append(s.Objects, o)
	}
	for zone := range 11 {
		list, behind, err := wire.TakeList(b, 400)
		throw(err != nil, err)
		s.Lists[zone], b = list, behind
	}
	for place := range 18 {
		s.Players[place/9][place%9] = take()
	}
	for place := range 7 {
		s.Game[place] = take()
	}
	throw(len(b) > 0, api.ErrLong)
	err = state.Check(s)
	throw(err != nil, err)
	return s, nil
}

// standing is the state of objects, each of which stands in the list that it says.
func standing(objects ...api.Object) api.State {
	s := api.State{Objects: objects}
	for id, o := range objects {
		s.Lists[o[api.FZone]] = append(s.Lists[o[api.FZone]], id)
	}
	return s
}

// worked is a state whose bytes are worked out by hand: a token that fights, an ability on the stack, a card in a library.
func worked() api.State {
	s := standing(
		api.Object{11, 0, 1, 8, 1, 1, 3, 2, -4, 5, 130, 1, 2, 1, 3, 1, 0, 3},
		api.Object{api.FCard: 107, api.FOwner: 1, api.FZone: 9, api.FKind: 2, api.FAbility: 1, api.FSource: 1, api.FTarget: -2, api.FKnows: 3},
		api.Object{api.FCard: 119, api.FOwner: 1, api.FControl: 1, api.FZone: 1, api.FKnows: 2},
	)
	s.Players = [2][9]int{{20, 1, 2, 3, 4, 5, 1000, 1, 0}, {-3, 0, 0, 0, 0, 0, 0, 0, 1}}
	s.Game = [7]int{12, 1, 5, 1, 1, 4096, 2}
	return s
}

// workedBytes are its bytes.
func workedBytes() []byte {
	return []byte{
		6,
		196, 239, 130, 1, 22, 6, 4, 7, 10, 4, 6, 2, 0,
		202, 112, 214, 1, 0, 0, 0, 0, 0, 2, 2, 3,
		142, 64, 238, 1, 0, 0, 0, 0, 0, 0, 0, 0,
		0, 2, 4, 0, 0, 0, 0, 0, 0, 2, 0, 2, 2, 0,
		40, 2, 4, 6, 8, 10, 208, 15, 2, 0,
		5, 0, 0, 0, 0, 0, 0, 0, 2,
		24, 2, 10, 2, 2, 128, 64, 4,
	}
}

// anyState is any right state, of up to so many objects.
func anyState(r *rand.Rand, most int) api.State {
	upTo := func(n int) int { return []int{0, n, r.Intn(n + 1)}[r.Intn(3)] }
	about := func(n int) int { return upTo(2*n) - n }
	count := r.Intn(most + 1)
	var objects []api.Object
	for range count {
		zone := r.Intn(11)
		o := api.Object{api.FCard: upTo(119), api.FOwner: zone % 2, api.FControl: zone % 2, api.FZone: zone, api.FAbility: upTo(3), api.FSource: upTo(count), api.FKnows: upTo(3)}
		if zone >= 8 {
			o[api.FOwner], o[api.FControl], o[api.FKind] = upTo(1), upTo(1), upTo(1)
		}
		if zone == api.Field {
			o[api.FTapped], o[api.FSick], o[api.FAttack], o[api.FBlock], o[api.FWords] = upTo(1), upTo(1), upTo(1), upTo(count), upTo(255)
			o[api.FDamage], o[api.FCounters], o[api.FPower], o[api.FTough] = upTo(1<<30), upTo(20), about(1<<30), about(9)
		}
		if zone == api.Stack {
			o[api.FKind], o[api.FTarget] = upTo(2), upTo(count+2)-2
		}
		objects = append(objects, o)
	}
	s := standing(objects...)
	for _, list := range s.Lists {
		r.Shuffle(len(list), func(i, j int) { list[i], list[j] = list[j], list[i] })
	}
	for p := range s.Players {
		s.Players[p] = [9]int{about(1 << 30), upTo(1000), upTo(1000), upTo(1000), upTo(1000), upTo(1000), upTo(1000), upTo(1), upTo(1)}
	}
	s.Game = [7]int{upTo(1 << 30), upTo(1), upTo(7), upTo(1), upTo(1), upTo(4096), upTo(3)}
	return s
}

// manyStates are right states of all sorts.
func manyStates() []api.State {
	r := rand.New(rand.NewSource(11))
	list := []api.State{{}, worked()}
	for i := range 1500 {
		list = append(list, anyState(r, i%40))
	}
	for range 20 {
		list = append(list, anyState(r, 400))
	}
	return list
}

// full is a right state of as many objects as there may be, all of them in one list.
func full(zone int) api.State {
	return standing(slices.Repeat([]api.Object{{api.FZone: zone, api.FOwner: zone % 2, api.FControl: zone % 2}}, 400)...)
}

// roomy is a state apart, in whose lists' spare room something stands.
func roomy(s api.State) api.State {
	s.Objects = append(slices.Clone(s.Objects), api.Object{-7})[:len(s.Objects)]
	for zone, list := range s.Lists {
		s.Lists[zone] = append(slices.Clone(list), -7)[:len(list)]
	}
	return s
}

// isKept tells whether a roomy state is as it was, and what stands in its spare room, too.
func isKept(s, was api.State) bool {
	if !state.Same(s, was) || s.Objects[:len(s.Objects)+1][len(s.Objects)] != (api.Object{-7}) {
		return false
	}
	for _, list := range s.Lists {
		if list[:len(list)+1][len(list)] != -7 {
			return false
		}
	}
	return true
}

// markOf is the mark of bytes, by the library.
func markOf(b []byte) uint64 {
	h := fnv.New64a()
	h.Write(b)
	return h.Sum64()
}

// checkBytes holds Bytes and Mark against what they are to answer, and asks that nothing was changed by them.
func checkBytes(t *testing.T, s api.State, want []byte, wantErr error) {
	t.Helper()
	argument, wantMark := roomy(s), uint64(0)
	if wantErr == nil {
		wantMark = markOf(want)
	}
	if got, err := Bytes(argument); !bytes.Equal(got, want) || err != wantErr || err != nil && got != nil {
		t.Fatalf("Bytes(%v) = %v, %v, not %v, %v", s, got, err, want, wantErr)
	}
	if got, err := Mark(argument); got != wantMark || err != wantErr {
		t.Fatalf("Mark(%v) = %d, %v, not %d, %v", s, got, err, wantMark, wantErr)
	}
	if !isKept(argument, s) {
		t.Fatalf("Bytes or Mark changed %v to %v, or its spare room", s, argument)
	}
}

// checkParse holds Parse against what it is to answer, and asks that the bytes were neither changed nor read beyond their end.
func checkParse(t *testing.T, b []byte, want api.State, wantErr error) {
	t.Helper()
	// What stands in the spare room would be read as numbers.
	argument := append(slices.Clone(b), 2, 2, 2, 2)
	got, err := Parse(argument[:len(b)])
	if !state.Same(got, want) || err != wantErr {
		t.Fatalf("Parse(%v) = %v, %v, not %v, %v", b, got, err, want, wantErr)
	}
	if !bytes.Equal(argument[:len(b)], b) || !bytes.Equal(argument[len(b):], []byte{2, 2, 2, 2}) {
		t.Fatalf("Parse changed %v to %v, or its spare room", b, argument)
	}
}

// checkRefused asks that Parse answers an error, and no state beside it.
func checkRefused(t *testing.T, b []byte, want error) {
	t.Helper()
	checkParse(t, b, api.State{}, want)
}

// checkReckoned holds Parse against the reckoning, and asks that bytes which are taken are those of their state.
func checkReckoned(t *testing.T, b []byte) error {
	t.Helper()
	want, wantErr := reckoned(b)
	checkParse(t, b, want, wantErr)
	if wantErr == nil {
		checkBytes(t, want, b, nil)
	}
	return wantErr
}

// P11.1: the chapter's example, and bytes worked out by hand, there and back.
func TestByHand(t *testing.T) {
	checkBytes(t, state.New(), make([]byte, 37), nil)
	checkParse(t, make([]byte, 37), state.New(), nil)
	checkBytes(t, worked(), workedBytes(), nil)
	checkParse(t, workedBytes(), worked(), nil)
	alone := standing(api.Object{api.FCard: 64, api.FZone: 10, api.FControl: 1})
	b := slices.Concat([]byte{2, 84, 128, 1}, make([]byte, 8+10), []byte{2, 0}, make([]byte, 25))
	checkBytes(t, alone, b, nil)
	checkParse(t, b, alone, nil)
}

// P11.1: each number of a state stands where the chapter says: changed alone, it changes the bytes of its own number.
func TestEachPlace(t *testing.T) {
	base := standing(api.Object{api.FZone: 10}, api.Object{api.FZone: 8}, api.Object{api.FZone: 9}, api.Object{api.FZone: 10})
	// How much more a number gets in what is told, if a field gets one more; and at which number of its object.
	heads := map[int]int{api.FOwner: 1, api.FControl: 2, api.FTapped: 64, api.FSick: 128, api.FAttack: 256, api.FKind: 512, api.FKnows: 2048, api.FWords: 8192}
	rests := map[int]int{api.FCard: 1, api.FDamage: 2, api.FCounters: 3, api.FPower: 4, api.FTough: 5, api.FBlock: 6, api.FAbility: 7, api.FSource: 8, api.FTarget: 9}
	check := func(place, more int, change func(*api.State)) {
		t.Helper()
		s, numbers := state.Copy(base), numbersOf(base)
		change(&s)
		numbers[place] += more
		checkBytes(t, s, written(numbers...), nil)
		checkParse(t, written(numbers...), s, nil)
	}
	for field, worth := range heads {
		check(11, worth, func(s *api.State) { s.Objects[1][field]++ })
	}
	for field, place := range rests {
		// The target is told of what is on the stack alone.
		id := 1 + place/9
		check(1+10*id+place, 1, func(s *api.State) { s.Objects[id][field]++ })
	}
	for place := range 18 {
		check(1+40+11+4+place, 1, func(s *api.State) { s.Players[place/9][place%9]++ })
	}
	for place := range 7 {
		check(1+40+11+4+18+place, 1, func(s *api.State) { s.Game[place]++ })
	}
}

// P11.1: an object in each list, and lists in each order.
func TestEachList(t *testing.T) {
	for zone := range 11 {
		numbers := slices.Repeat([]int{0}, 1+10+11+1+25)
		numbers[0], numbers[1], numbers[11+zone] = 1, 4*zone, 1
		if zone < 8 {
			numbers[1] += zone % 2 * 3
		}
		s := standing(api.Object{api.FZone: zone, api.FOwner: numbers[1] % 2, api.FControl: numbers[1] % 2})
		checkBytes(t, s, written(numbers...), nil)
		checkParse(t, written(numbers...), s, nil)
		for _, order := range [][]int{{0, 1, 2}, {0, 2, 1}, {1, 0, 2}, {1, 2, 0}, {2, 0, 1}, {2, 1, 0}} {
			s := standing(s.Objects[0], s.Objects[0], s.Objects[0])
			s.Lists[zone] = order
			numbers := slices.Concat([]int{3}, slices.Repeat(numbers[1:11], 3), make([]int, zone), []int{3}, order, make([]int, 10-zone+25))
			checkBytes(t, s, written(numbers...), nil)
			checkParse(t, written(numbers...), s, nil)
		}
	}
}

// P11.1 and P11.2: the bytes of right states of all sorts, and back.
func TestThereAndBack(t *testing.T) {
	list := manyStates()
	for zone := range 11 {
		list = append(list, full(zone))
	}
	for _, s := range list {
		b := written(numbersOf(s)...)
		checkBytes(t, s, b, nil)
		checkParse(t, b, s, nil)
		checkReckoned(t, b)
	}
}

// P11.2: two right states are the same, if their bytes are; here of all that differ in little.
func TestBytesTellTheirState(t *testing.T) {
	seen := map[string]api.State{}
	add := func(s api.State) {
		t.Helper()
		b, err := Bytes(s)
		if err != nil {
			return
		}
		if other, ok := seen[string(b)]; ok && !state.Same(s, other) {
			t.Fatalf("%v and %v have the same bytes", s, other)
		}
		seen[string(b)] = state.Copy(s)
	}
	for _, s := range manyStates()[:80] {
		add(s)
		each := func(n *int) {
			was := *n
			for _, *n = range []int{was + 1, was - 1, was + 128, was * 2, 0, 1, 2, 3} {
				add(s)
			}
			*n = was
		}
		for id := range s.Objects {
			for field := range 18 {
				each(&s.Objects[id][field])
			}
		}
		for place := range 18 {
			each(&s.Players[place/9][place%9])
		}
		for place := range 7 {
			each(&s.Game[place])
		}
		for zone, list := range s.Lists {
			for place := range list {
				list[0], list[place] = list[place], list[0]
				add(s)
			}
			// An object in another list.
			for other := range 11 {
				if len(s.Lists[zone]) > 0 && other != zone {
					moved := state.Copy(s)
					moved.Lists[zone], moved.Lists[other] = moved.Lists[zone][1:], append(moved.Lists[other], moved.Lists[zone][0])
					moved.Objects[s.Lists[zone][0]][api.FZone] = other
					add(moved)
				}
			}
		}
	}
	if len(seen) < 20000 {
		t.Errorf("%d states only were right", len(seen))
	}
}

// P11.1: of a state that isn't right Bytes and Mark answer Check's error, the first one that applies.
func TestBytesRefused(t *testing.T) {
	wrongs := []struct {
		want   error
		change func(s *api.State)
	}{
		{api.ErrFull, func(s *api.State) { s.Objects = append(s.Objects, make([]api.Object, 398)...) }},
		{api.ErrRange, func(s *api.State) { s.Objects[2][api.FCard] = 120 }},
		{api.ErrRange, func(s *api.State) { s.Players[1][api.PMana+5] = 1001 }},
		{api.ErrRange, func(s *api.State) { s.Game[api.GCursor] = 4097 }},
		{api.ErrZone, func(s *api.State) { s.Lists[4] = append(s.Lists[4], 1) }},
		{api.ErrZone, func(s *api.State) { s.Lists[8] = nil }},
		{api.ErrForm, func(s *api.State) { s.Objects[1][api.FTapped] = 1 }},
		{api.ErrForm, func(s *api.State) { s.Objects[0][api.FTarget] = 1 }},
	}
	for i, wrong := range wrongs {
		for _, later := range wrongs[i:] {
			s := worked()
			later.change(&s)
			checkBytes(t, s, nil, later.want)
			wrong.change(&s)
			checkBytes(t, s, nil, wrong.want)
		}
	}
	// Fields of heads by the least number that is wrong; of some their part of the head would take it still.
	for field, least := range map[int]int{
		api.FOwner: 2, api.FControl: 2, api.FZone: 11, api.FTapped: 2, api.FSick: 2, api.FAttack: 2, api.FKind: 3, api.FKnows: 4, api.FWords: 256,
	} {
		for _, n := range []int{least, least + 1, least + 16, least + 256, least + 1<<32, math.MaxInt, math.MinInt, -1} {
			s := worked()
			s.Objects[1][field] = n
			checkBytes(t, s, nil, api.ErrRange)
		}
	}
	checkBytes(t, api.State{Objects: make([]api.Object, 400)}, nil, api.ErrZone)
	checkBytes(t, api.State{Objects: make([]api.Object, 401)}, nil, api.ErrFull)
	checkBytes(t, api.State{Objects: make([]api.Object, 70000)}, nil, api.ErrFull)
}

// P11.1: nil and empty lists mean the same.
func TestEmptyLists(t *testing.T) {
	s := api.State{Objects: []api.Object{}}
	for zone := range s.Lists {
		s.Lists[zone] = make([]int, 0, zone)
	}
	checkBytes(t, s, make([]byte, 37), nil)
	checkRefused(t, nil, api.ErrEnd)
	checkRefused(t, []byte{}, api.ErrEnd)
	if Hash(nil) != Hash([]byte{}) {
		t.Error(Hash(nil), Hash([]byte{}))
	}
}

// P11.1: bytes that end ahead of a state's end, wherever: of a number's bytes, too.
func TestParseEnd(t *testing.T) {
	states := append(manyStates()[:30], full(8))
	for _, s := range states {
		b := written(numbersOf(s)...)
		for size := range b {
			checkRefused(t, b[:size], api.ErrEnd)
		}
	}
	// All that are there have 128 in them, as far as nine go.
	b := workedBytes()
	for size := range b {
		for _, more := range []int{1, 5, 9} {
			if size == 0 || b[size-1] < 128 {
				checkRefused(t, slices.Concat(b[:size], bytes.Repeat([]byte{200}, more)), api.ErrEnd)
			}
		}
	}
}

// split is the bytes of each number.
func split(numbers []int) [][]byte {
	var parts [][]byte
	for _, n := range numbers {
		parts = append(parts, written(n))
	}
	return parts
}

// P11.1: bytes that are no number's, at each number's place, ahead of whatever follows.
func TestParseForm(t *testing.T) {
	for _, s := range append(manyStates()[:12], full(3)) {
		parts := split(numbersOf(s))
		// Of many numbers some 200 are enough.
		for place := 0; place < len(parts); place += 1 + len(parts)/200 {
			front, behind := slices.Concat(parts[:place]...), slices.Concat(parts[place+1:]...)
			for _, wrong := range wrongNumbers {
				checkRefused(t, slices.Concat(front, wrong), api.ErrForm)
				checkRefused(t, slices.Concat(front, wrong, behind), api.ErrForm)
				checkRefused(t, slices.Concat(front, wrong, behind, []byte{0, 128}), api.ErrForm)
			}
		}
	}
}

// checkCount asks what is told of a count below 0 and of one above 400, whatever follows it, and of one between, if nothing does.
func checkCount(t *testing.T, front []byte, n int, behind []byte, above error) {
	t.Helper()
	told := slices.Concat(front, written(n))
	if n >= 0 && n <= 400 {
		checkRefused(t, told, api.ErrEnd)
		return
	}
	want := error(api.ErrRange)
	if n > 400 {
		want = above
	}
	for _, behind := range [][]byte{nil, behind, wrongNumbers[0], make([]byte, 5000)} {
		checkRefused(t, slices.Concat(told, behind), want)
	}
}

// P11.1: how many objects there are: below 0, above 400, and more than are told.
func TestParseCount(t *testing.T) {
	behind := workedBytes()[1:]
	for _, n := range edges {
		checkCount(t, nil, n, behind, api.ErrFull)
		checkReckoned(t, slices.Concat(written(n), behind))
		checkReckoned(t, slices.Concat(written(n), make([]byte, 5000)))
	}
	s := full(10)
	s.Objects = append(s.Objects, s.Objects[0])
	s.Lists[10] = append(s.Lists[10], 400)
	checkRefused(t, written(numbersOf(s)...), api.ErrFull)
}

// P11.1: heads: what is told of one that is too great or below 0, and of one that has a bit too many.
func TestParseHead(t *testing.T) {
	for _, count := range []int{1, 3, 400} {
		s := full(10)
		s.Objects, s.Lists[10] = s.Objects[:count], s.Lists[10][:count]
		parts := split(numbersOf(s))
		for _, id := range []int{0, count / 2, count - 1} {
			place := 1 + 10*id
			front, rest, behind := slices.Concat(parts[:place]...), slices.Concat(parts[place+1:place+10]...), slices.Concat(parts[place+10:]...)
			for _, n := range edges {
				head := written(n)
				want := error(api.ErrForm)
				switch {
				case n < 0 || n >= 1<<32:
					want = api.ErrRange
					// Ahead of its nine numbers.
					checkRefused(t, slices.Concat(front, head), api.ErrRange)
					checkRefused(t, slices.Concat(front, head, wrongNumbers[0], behind), api.ErrRange)
				case n >= 1<<21:
					// Behind its nine numbers.
					checkRefused(t, slices.Concat(front, head, rest[:8]), api.ErrEnd)
					checkRefused(t, slices.Concat(front, head, rest[:8], []byte{128}), api.ErrEnd)
					// Ahead of what follows them.
					checkRefused(t, slices.Concat(front, head, rest), api.ErrForm)
				default:
					checkRefused(t, slices.Concat(front, head, rest), api.ErrEnd)
					checkReckoned(t, slices.Concat(front, head, rest, behind))
					continue
				}
				checkRefused(t, slices.Concat(front, head, rest, behind), want)
				checkRefused(t, slices.Concat(front, head, rest, behind, []byte{0}), want)
			}
		}
		// Of two heads the left one is told.
		parts[1], parts[10*count-9] = written(1<<21), written(-1)
		want := error(api.ErrForm)
		if count == 1 {
			want = api.ErrRange
		}
		checkRefused(t, slices.Concat(parts...), want)
	}
}

// P11.1: how many numbers a list has: below 0, above 400, and more than there are.
func TestParseLists(t *testing.T) {
	for zone := range 11 {
		front, behind := make([]byte, 1+zone), make([]byte, 10-zone+25)
		for _, n := range edges {
			checkCount(t, front, n, behind, api.ErrMany)
			// Numbers that are no objects': the list is read to its end, and what it says is wrong.
			checkRefused(t, slices.Concat(front, written(1, n), behind), api.ErrZone)
			// As many as may be, and as long.
			long := slices.Concat(front, written(400), bytes.Repeat(written(n), 400))
			checkRefused(t, slices.Concat(long, behind), api.ErrZone)
			checkRefused(t, slices.Concat(long, behind, []byte{128}), api.ErrLong)
			checkRefused(t, long[:len(long)-1], api.ErrEnd)
			checkRefused(t, slices.Concat(front, written(401), bytes.Repeat(written(n), 401), behind), api.ErrMany)
		}
	}
	all := written(0)
	for range 11 {
		all = slices.Concat(all, written(400), bytes.Repeat(written(math.MinInt), 400))
	}
	checkRefused(t, slices.Concat(all, make([]byte, 25)), api.ErrZone)
	checkRefused(t, slices.Concat(all, make([]byte, 24)), api.ErrEnd)
	checkRefused(t, slices.Concat(all, make([]byte, 26)), api.ErrLong)
}

// P11.1: bytes that are left, whatever they are, behind a right state and ahead of Check's error.
func TestParseLong(t *testing.T) {
	wrong := worked()
	wrong.Objects[0][api.FCard] = 120
	for _, s := range []api.State{{}, worked(), wrong, full(7)} {
		b := written(numbersOf(s)...)
		for c := range 256 {
			checkRefused(t, append(slices.Clone(b), byte(c)), api.ErrLong)
		}
		checkRefused(t, slices.Concat(b, b), api.ErrLong)
		// Many bytes: what is left isn't to be copied with each number.
		checkRefused(t, slices.Concat(b, make([]byte, 1<<24)), api.ErrLong)
	}
}

// P11.1: bytes of states that aren't right: Check's error.
func TestParseCheck(t *testing.T) {
	for i, c := range []struct {
		want   error
		change func(s *api.State)
	}{
		{api.ErrRange, func(s *api.State) { s.Objects[0][api.FCard] = 120 }},
		{api.ErrRange, func(s *api.State) { s.Objects[0][api.FZone] = 11 }},
		{api.ErrRange, func(s *api.State) { s.Objects[2][api.FZone] = 15 }},
		{api.ErrRange, func(s *api.State) { s.Objects[1][api.FKind] = 3 }},
		{api.ErrRange, func(s *api.State) { s.Objects[1][api.FTarget] = 4 }},
		{api.ErrRange, func(s *api.State) { s.Objects[0][api.FBlock] = 4 }},
		{api.ErrRange, func(s *api.State) { s.Players[0][api.PLife] = -1<<30 - 1 }},
		{api.ErrRange, func(s *api.State) { s.Players[1][api.PEmpty] = 2 }},
		{api.ErrRange, func(s *api.State) { s.Game[api.GTurn] = -1 }},
		{api.ErrRange, func(s *api.State) { s.Game[api.GResult], s.Lists[0], s.Objects[2][api.FSick] = 4, []int{0}, 1 }},
		{api.ErrZone, func(s *api.State) { s.Lists[0] = []int{3} }},
		{api.ErrZone, func(s *api.State) { s.Lists[0], s.Objects[2][api.FSick] = []int{-1}, 1 }},
		{api.ErrZone, func(s *api.State) { s.Lists[1], s.Lists[3] = nil, []int{2} }},
		{api.ErrZone, func(s *api.State) { s.Objects[2][api.FOwner] = 0 }},
		{api.ErrForm, func(s *api.State) { s.Objects[2][api.FControl] = 0 }},
		{api.ErrForm, func(s *api.State) { s.Objects[2][api.FWords] = 255 }},
		{api.ErrForm, func(s *api.State) { s.Objects[0][api.FTarget] = -1 }},
	} {
		s := worked()
		c.change(&s)
		if err := state.Check(s); err != c.want {
			t.Fatalf("case %d: %v", i, err)
		}
		checkRefused(t, written(numbersOf(s)...), c.want)
	}
}

// P11.1: each number of states exchanged for another one, the one or the other left out or told twice; a second one changed, too.
func TestParseEachNumber(t *testing.T) {
	met := map[error]int{}
	for _, s := range manyStates()[:14] {
		parts := split(numbersOf(s))
		for place, was := range parts {
			for _, n := range edges {
				parts[place] = written(n)
				b := slices.Concat(parts...)
				met[checkReckoned(t, b)]++
				met[checkReckoned(t, b[:len(b)-1])]++
				met[checkReckoned(t, append(b, 0))]++
			}
			parts[place] = nil
			met[checkReckoned(t, slices.Concat(parts...))]++
			parts[place] = slices.Concat(was, was)
			met[checkReckoned(t, slices.Concat(parts...))]++
			parts[place] = was
		}
	}
	for _, err := range []error{nil, api.ErrEnd, api.ErrRange, api.ErrFull, api.ErrForm, api.ErrMany, api.ErrLong, api.ErrZone} {
		if met[err] < 10 {
			t.Errorf("%v was met %d times only", err, met[err])
		}
	}
}

// P11.1: of two numbers that are wrong the left one is told.
func TestParseOrder(t *testing.T) {
	parts := split(numbersOf(worked()))
	wrongs := slices.Concat(wrongNumbers[:1], split([]int{-1, 401, 1 << 21, 1 << 32}))
	for left, wasLeft := range parts {
		for right := left + 1; right < len(parts); right++ {
			wasRight := parts[right]
			for _, one := range wrongs {
				for _, other := range wrongs {
					parts[left], parts[right] = one, other
					checkReckoned(t, slices.Concat(parts...))
				}
			}
			parts[left], parts[right] = wasLeft, wasRight
		}
	}
}

// P11.1 and P11.2: each byte exchanged, left out or told twice; and bytes of no order at all.
func TestParseEachByte(t *testing.T) {
	for _, b := range [][]byte{make([]byte, 37), workedBytes()} {
		for place := range b {
			other := slices.Clone(b)
			for c := range 256 {
				other[place] = byte(c)
				checkReckoned(t, other)
				checkReckoned(t, slices.Insert(slices.Clone(b), place, byte(c)))
			}
			checkReckoned(t, slices.Delete(slices.Clone(b), place, place+1))
		}
	}
	r := rand.New(rand.NewSource(12))
	sorts := []byte{0, 0, 0, 0, 0, 0, 1, 2, 2, 4, 32, 127, 128, 255}
	for range 100000 {
		b := make([]byte, r.Intn(80))
		for i := range b {
			b[i] = sorts[r.Intn(len(sorts))]
		}
		checkReckoned(t, b)
		r.Read(b)
		checkReckoned(t, b)
	}
}

// P11.1: answers are new memory: what is done to them changes neither what was handed in, nor a later answer.
func TestAnswersAreApart(t *testing.T) {
	for _, s := range append(manyStates()[:200], full(5)) {
		want := written(numbersOf(s)...)
		b, err := Bytes(s)
		if err != nil {
			t.Fatal(err)
		}
		got, err := Parse(b)
		if err != nil {
			t.Fatal(err)
		}
		clear(b[:cap(b)])
		if !state.Same(got, s) {
			t.Fatalf("the state %v hangs on its bytes", s)
		}
		// The whole room of each list: were any two of them shared, one would not be what was put into it.
		whole := got.Objects[:cap(got.Objects)]
		clear(whole)
		for zone, list := range got.Lists {
			for i := range list[:cap(list)] {
				list[:cap(list)][i] = 1000 + zone
			}
		}
		for zone, list := range got.Lists {
			for _, n := range list[:cap(list)] {
				if n != 1000+zone {
					t.Fatalf("two lists of the state %v share room", s)
				}
			}
		}
		checkBytes(t, s, want, nil)
		checkParse(t, want, s, nil)
	}
}

// P11.1: marks that are told in the books, and those of all bytes by numbers without bounds.
func TestHash(t *testing.T) {
	for text, want := range map[string]uint64{
		"": 14695981039346656037, "a": 0xaf63dc4c8601ec8c, "b": 0xaf63df4c8601f1a5, "foobar": 0x85944171f73967e8,
		"\x00": 0xaf63bd4c8601b7df, "chongo was here!\n": 0x46810940eff5f915,
	} {
		if got := Hash([]byte(text)); got != want {
			t.Errorf("Hash(%q) = %#x, not %#x", text, got, want)
		}
	}
	modulus, factor := new(big.Int).Lsh(big.NewInt(1), 64), big.NewInt(1099511628211)
	mark, b := new(big.Int).SetUint64(14695981039346656037), []byte{}
	for i := range 3000 {
		c := byte(i * (1 + i/256))
		b = append(b, c)
		mark.Xor(mark, big.NewInt(int64(c))).Mul(mark, factor).Mod(mark, modulus)
		if got := Hash(b); got != mark.Uint64() || got != markOf(b) {
			t.Fatalf("Hash of %d bytes = %d, not %d", len(b), got, mark)
		}
	}
	for one := range 256 {
		for other := range 256 {
			b := []byte{byte(one), byte(other), 77}
			if got := Hash(b[:2]); got != markOf([]byte{byte(one), byte(other)}) || !bytes.Equal(b, []byte{byte(one), byte(other), 77}) {
				t.Fatalf("Hash(%d %d) = %d, or it changed them", one, other, got)
			}
		}
	}
}

// P11.1: a state's mark is that of its bytes, and told by them alone.
func TestMark(t *testing.T) {
	if got, err := Mark(state.New()); got != Hash(make([]byte, 37)) || err != nil {
		t.Error(got, err)
	}
	if got, err := Mark(worked()); got != markOf(workedBytes()) || err != nil {
		t.Error(got, err)
	}
	marks := map[uint64]api.State{}
	for _, s := range manyStates() {
		got, err := Mark(s)
		if other, ok := marks[got]; err != nil || ok && !state.Same(s, other) {
			t.Fatalf("%v and %v have the mark %d, or %v", s, other, got, err)
		}
		marks[got] = s
	}
}
