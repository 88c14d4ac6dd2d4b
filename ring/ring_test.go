package ring_test

import (
	"cmp"
	"errors"
	"math"
	"math/rand/v2"
	"slices"
	"testing"

	"towpath/addr"
	"towpath/api"
	"towpath/ring"
)

var (
	muxes      = []int{32, 33, 34, 35, 36, 37, 38, 39}
	notPoints  = []int{0, -1, 65, 66, 1 << 8, 1 << 32, 1<<32 + 1, math.MaxInt, math.MinInt, math.MinInt + 1}
	notMembers = []int{-1, -2, -32, 65536, 65537, 1 << 17, 1 << 32, 1<<32 + 32, math.MaxInt, math.MinInt, math.MinInt + 32}
)

func generator(seed uint64) *rand.Rand {
	return rand.New(rand.NewPCG(seed, 9))
}

// made is a ring that there must be.
func made(t *testing.T, points int, members ...int) *ring.Ring {
	t.Helper()
	r, err := ring.New(points, members...)
	if r == nil || err != nil {
		t.Fatalf("New(%d, %v) = %v, %v", points, members, r, err)
	}
	return r
}

func with(t *testing.T, r *ring.Ring, members ...int) *ring.Ring {
	t.Helper()
	more, err := r.With(members...)
	if more == nil || err != nil {
		t.Fatalf("With(%v) = %v, %v", members, more, err)
	}
	return more
}

func without(t *testing.T, r *ring.Ring, members ...int) *ring.Ring {
	t.Helper()
	fewer, err := r.Without(members...)
	if fewer == nil || err != nil {
		t.Fatalf("Without(%v) = %v, %v", members, fewer, err)
	}
	return fewer
}

// refused wants a ring's making to have been refused.
func refused(t *testing.T, r *ring.Ring, err, want error) {
	t.Helper()
	if r != nil || !errors.Is(err, want) {
		t.Fatalf("%v, %v, want nil, %v", r, err, want)
	}
}

func place(member, j int) uint64 {
	return addr.Hash(uint64(j), api.Flow{Src: api.Addr(member)})
}

// nearest is how far it is from a key upwards to the nearest of a member's points, round the end of all numbers.
func nearest(points, member int, key uint64) uint64 {
	least := uint64(math.MaxUint64)
	for j := range points {
		least = min(least, place(member, j)-key)
	}
	return least
}

// ordered is all owners of a key as the chapter says, worked out without a ring: the members, the nearest one first.
func ordered(points int, members []int, key uint64) []int {
	all := slices.Clone(members)
	slices.SortFunc(all, func(a, b int) int {
		return cmp.Or(cmp.Compare(nearest(points, a, key), nearest(points, b, key)), cmp.Compare(a, b))
	})
	return all
}

func owners(t *testing.T, r *ring.Ring, key uint64, n int, want []int) {
	t.Helper()
	if got := r.Owners(key, n); !slices.Equal(got, want) {
		t.Fatalf("Owners(%#x, %d) = %v, want %v", key, n, got, want)
	}
}

// holds asks for a ring's members and for owners of some keys.
func holds(t *testing.T, r *ring.Ring, points int, rising ...int) {
	t.Helper()
	if got := r.Members(); !slices.Equal(got, rising) {
		t.Fatalf("Members() = %v, want %v", got, rising)
	}
	for _, key := range []uint64{0, 1, 1 << 62, 1 << 63, 3 << 62, math.MaxUint64, 0x123456789abcdef0} {
		owners(t, r, key, math.MaxInt, ordered(points, rising, key))
	}
}

// someMembers is so many members, each another one, in no order.
func someMembers(g *rand.Rand, count int) []int {
	var members []int
	for len(members) < count {
		member := g.IntN(65536)
		if g.IntN(3) == 0 {
			member = g.IntN(100)
		}
		if !slices.Contains(members, member) {
			members = append(members, member)
		}
	}
	return members
}

func rising(members []int) []int {
	all := slices.Clone(members)
	slices.Sort(all)
	return all
}

// keysAround is keys at a ring's points, just below and just above them, and at both ends of all numbers.
func keysAround(points int, members []int) []uint64 {
	keys := []uint64{0, 1, math.MaxUint64 - 1, math.MaxUint64}
	for _, member := range members {
		for j := range points {
			keys = append(keys, place(member, j)-1, place(member, j), place(member, j)+1)
		}
	}
	return keys
}

// P9.1: New, Members

func TestExamplesOfRings(t *testing.T) {
	r := made(t, 8, 32)
	for _, key := range keysAround(8, []int{32}) {
		owners(t, r, key, 2, []int{32})
	}
	none, err := ring.New(0, 32)
	refused(t, none, err, api.ErrRange)
	none, err = ring.New(1, 5, 5)
	refused(t, none, err, api.ErrForm)
}

func TestNewTakesAllPointsAndMembers(t *testing.T) {
	for points := 1; points <= api.MaxPoints; points++ {
		holds(t, made(t, points, 34, 32, 33), points, 32, 33, 34)
	}
	holds(t, made(t, 3, 65535, 0, 1, 65534), 3, 0, 1, 65534, 65535)
	g := generator(1)
	for count := range api.MaxMembers + 1 {
		members := someMembers(g, count)
		holds(t, made(t, 2, members...), 2, rising(members)...)
	}
}

func TestNewRefusesPointsAheadOfMembers(t *testing.T) {
	tooMany := make([]int, api.MaxMembers+1)
	for _, points := range notPoints {
		for _, members := range [][]int{nil, {32}, {5, 5}, {-1}, {65536}, tooMany} {
			r, err := ring.New(points, members...)
			refused(t, r, err, api.ErrRange)
		}
	}
}

func TestNewRefusesWhatIsNoMember(t *testing.T) {
	for _, none := range notMembers {
		for _, members := range [][]int{{none}, {none, 1}, {1, none}, {1, none, 2}, {none, none}, {0, 65535, none}} {
			r, err := ring.New(1, members...)
			refused(t, r, err, api.ErrForm)
		}
	}
}

func TestNewRefusesAMemberTwice(t *testing.T) {
	for _, members := range [][]int{{0, 0}, {5, 5, 6}, {5, 6, 5}, {6, 5, 5}, {65535, 1, 2, 65535}, {3, 2, 1, 2}} {
		r, err := ring.New(64, members...)
		refused(t, r, err, api.ErrForm)
	}
	g := generator(2)
	for range 200 {
		members := someMembers(g, 2+g.IntN(61))
		members = append(members, members[g.IntN(len(members))])
		g.Shuffle(len(members), func(i, j int) { members[i], members[j] = members[j], members[i] })
		r, err := ring.New(8, members...)
		refused(t, r, err, api.ErrForm)
	}
}

func TestNewRefusesTooManyMembers(t *testing.T) {
	g := generator(3)
	for _, count := range []int{65, 66, 100, 1000} {
		r, err := ring.New(1, someMembers(g, count)...)
		refused(t, r, err, api.ErrForm)
	}
	r, err := ring.New(1, make([]int, 1<<20)...)
	refused(t, r, err, api.ErrForm)
}

func TestOrderOfMembersIsOfNoWeight(t *testing.T) {
	g := generator(4)
	members := slices.Clone(muxes)
	for range 50 {
		g.Shuffle(len(members), func(i, j int) { members[i], members[j] = members[j], members[i] })
		holds(t, made(t, 8, members...), 8, muxes...)
	}
}

// P9.1: Owners

// The owners were worked out from the chapters' words apart from this program.
var known = []struct {
	points  int
	members []int
	key     uint64
	want    []int
}{
	{8, []int{32, 33, 34, 35, 36, 37, 38, 39}, 0x0, []int{37, 33, 34, 36, 35, 32, 39, 38}},
	{8, []int{32, 33, 34, 35, 36, 37, 38, 39}, 0xffffffffffffffff, []int{37, 33, 34, 36, 35, 32, 39, 38}},
	{8, []int{32, 33, 34, 35, 36, 37, 38, 39}, 0x8000000000000000, []int{33, 37, 34, 32, 35, 38, 39, 36}},
	{8, []int{32, 33, 34, 35, 36, 37, 38, 39}, 0xf79cb691e235cf91, []int{39, 37, 33, 34, 36, 35, 32, 38}},
	{8, []int{32, 33}, 0xf79cb691e235cf91, []int{33, 32}},
	{8, []int{32, 33, 34}, 0x4000000000000000, []int{33, 32, 34}},
	{1, []int{0, 65535, 1, 256}, 0x0, []int{0, 65535, 1, 256}},
	{1, []int{0, 65535, 1, 256}, 0x9000000000000000, []int{1, 256, 0, 65535}},
	{64, []int{7, 70, 700, 7000}, 0x123456789abcdef0, []int{700, 7, 7000, 70}},
	{64, []int{7, 70, 700, 7000}, 0x91a2b3c4d5e6f780, []int{7000, 700, 7, 70}},
}

func TestOwnersOfKnownKeys(t *testing.T) {
	for _, c := range known {
		owners(t, made(t, c.points, c.members...), c.key, 64, c.want)
	}
}

func TestOwnersAtEachPoint(t *testing.T) {
	g := generator(5)
	for _, c := range [][2]int{{1, 1}, {1, 2}, {2, 1}, {8, 2}, {8, 8}, {1, 64}, {64, 1}, {64, 3}, {3, 20}} {
		points, members := c[0], someMembers(g, c[1])
		r := made(t, points, members...)
		for _, key := range keysAround(points, members) {
			owners(t, r, key, len(members), ordered(points, members, key))
		}
		for _, member := range members {
			for j := range points {
				owners(t, r, place(member, j), 1, []int{member})
			}
		}
	}
}

func TestOwnersOfAnyKey(t *testing.T) {
	g := generator(6)
	for range 60 {
		points, members := 1+g.IntN(api.MaxPoints), someMembers(g, g.IntN(20))
		r := made(t, points, members...)
		for range 20 {
			key := g.Uint64()
			owners(t, r, key, math.MaxInt, ordered(points, members, key))
		}
	}
}

func TestOwnersOfAGreatRing(t *testing.T) {
	g := generator(7)
	members := someMembers(g, api.MaxMembers)
	r := made(t, api.MaxPoints, members...)
	for range 50 {
		key := g.Uint64()
		owners(t, r, key, api.MaxMembers, ordered(api.MaxPoints, members, key))
	}
}

func TestOwnersAreTheFirstOnes(t *testing.T) {
	g := generator(8)
	r := made(t, 8, muxes...)
	for range 200 {
		key := g.Uint64()
		all := ordered(8, muxes, key)
		for n := range 9 {
			owners(t, r, key, n, all[:n])
		}
		for _, n := range []int{9, 64, 65, 1 << 40, math.MaxInt} {
			owners(t, r, key, n, all)
		}
		for _, n := range []int{0, -1, -8, math.MinInt} {
			owners(t, r, key, n, nil)
		}
	}
}

func TestARingOfNoMembers(t *testing.T) {
	r := made(t, 8)
	for _, key := range []uint64{0, 1, 1 << 63, math.MaxUint64} {
		for _, n := range []int{math.MinInt, -1, 0, 1, 2, math.MaxInt} {
			owners(t, r, key, n, nil)
		}
	}
	holds(t, r, 8)
	holds(t, with(t, r, 32, 33), 8, 32, 33)
	holds(t, without(t, r, 32, 33), 8)
}

// P9.1: With, Without

func TestWith(t *testing.T) {
	r := made(t, 5, 40, 20)
	holds(t, with(t, r), 5, 20, 40)
	holds(t, with(t, r, 30), 5, 20, 30, 40)
	holds(t, with(t, r, 65535, 0, 30), 5, 0, 20, 30, 40, 65535)
	holds(t, with(t, with(t, r, 41), 19), 5, 19, 20, 40, 41)
	holds(t, r, 5, 20, 40)
}

func TestWithRefuses(t *testing.T) {
	r := made(t, 5, 40, 20)
	for _, members := range [][]int{{20}, {40}, {30, 40}, {30, 30}, {30, 31, 30}, make([]int, 65), make([]int, 1<<20)} {
		none, err := r.With(members...)
		refused(t, none, err, api.ErrForm)
	}
	for _, member := range notMembers {
		none, err := r.With(member)
		refused(t, none, err, api.ErrForm)
		none, err = r.With(30, member, 31)
		refused(t, none, err, api.ErrForm)
	}
	holds(t, r, 5, 20, 40)
}

func TestWithUpToAllMembers(t *testing.T) {
	members := someMembers(generator(9), 66)
	for _, had := range []int{0, 1, 31, 63, 64} {
		r := made(t, 2, members[:had]...)
		holds(t, with(t, r, members[had:64]...), 2, rising(members[:64])...)
		for _, count := range []int{65, 66} {
			none, err := r.With(members[had:count]...)
			refused(t, none, err, api.ErrForm)
		}
		holds(t, r, 2, rising(members[:had])...)
	}
}

func TestWithout(t *testing.T) {
	r := made(t, 5, 40, 20, 30)
	holds(t, without(t, r), 5, 20, 30, 40)
	holds(t, without(t, r, 20), 5, 30, 40)
	holds(t, without(t, r, 30), 5, 20, 40)
	holds(t, without(t, r, 40), 5, 20, 30)
	holds(t, without(t, r, 40, 20), 5, 30)
	holds(t, without(t, r, 30, 40, 20), 5)
	holds(t, without(t, without(t, r, 30), 20), 5, 40)
	holds(t, r, 5, 20, 30, 40)
}

func TestWithoutOthers(t *testing.T) {
	r := made(t, 5, 40, 20, 30)
	for _, other := range append([]int{0, 19, 21, 25, 31, 65535}, notMembers...) {
		holds(t, without(t, r, other), 5, 20, 30, 40)
		holds(t, without(t, r, other, 30, other), 5, 20, 40)
	}
	holds(t, without(t, r, 30, 30, 30), 5, 20, 40)
	many := append(make([]int, 1<<20), 20)
	holds(t, without(t, r, many...), 5, 30, 40)
	holds(t, without(t, made(t, 5, 0, 20, 30), many...), 5, 30)
}

func TestWithAndWithoutTurnBack(t *testing.T) {
	g := generator(10)
	for range 50 {
		points, members := 1+g.IntN(8), someMembers(g, 2+g.IntN(60))
		cut := g.IntN(len(members))
		r := made(t, points, members...)
		fewer := without(t, r, members[cut:]...)
		holds(t, fewer, points, rising(members[:cut])...)
		holds(t, with(t, fewer, members[cut:]...), points, rising(members)...)
	}
}

func TestNilRing(t *testing.T) {
	var r *ring.Ring
	if members := r.Members(); len(members) != 0 {
		t.Error(members)
	}
	for _, key := range []uint64{0, 1, math.MaxUint64} {
		for _, n := range []int{math.MinInt, -1, 0, 1, math.MaxInt} {
			owners(t, r, key, n, nil)
		}
	}
	for _, members := range [][]int{nil, {}, {1}, {1, 1}, {-1}, make([]int, 65)} {
		none, err := r.With(members...)
		refused(t, none, err, api.ErrForm)
		none, err = r.Without(members...)
		refused(t, none, err, api.ErrForm)
	}
}

// P9.1: Check

// machine is the machine of a count: one of host 0 first.
func machine(t *testing.T, count int) api.Addr {
	t.Helper()
	dip, err := addr.Dip(count/16, count%16)
	if err != nil {
		t.Fatal(err)
	}
	return dip
}

// someEnds is so many ends of different machines, in form.
func someEnds(t *testing.T, g *rand.Rand, count int) []api.End {
	t.Helper()
	var ends []api.End
	for _, at := range g.Perm(128)[:count] {
		ends = append(ends, api.End{Dip: machine(t, at), Port: g.IntN(65536), Weight: 1 + g.IntN(api.MaxWeight)})
	}
	return ends
}

func checked(t *testing.T, want error, ends ...api.End) {
	t.Helper()
	if err := ring.Check(ends); !errors.Is(err, want) {
		t.Errorf("Check(%.200v) = %v, want %v", ends, err, want)
	}
}

func TestCheckTakesEnds(t *testing.T) {
	if err := ring.Check(nil); err != nil {
		t.Error(err)
	}
	checked(t, nil)
	g := generator(11)
	for count := range api.MaxMembers + 1 {
		checked(t, nil, someEnds(t, g, count)...)
	}
	for at := range 128 {
		checked(t, nil, api.End{Dip: machine(t, at), Port: at, Weight: 1 + at%16})
	}
}

func TestCheckRefusesTooMany(t *testing.T) {
	g := generator(12)
	for _, count := range []int{65, 66, 128} {
		checked(t, api.ErrForm, someEnds(t, g, count)...)
	}
	checked(t, api.ErrForm, make([]api.End, 1<<20)...)
}

// checkedAmong holds an end alone, and among others, against what is wanted.
func checkedAmong(t *testing.T, want error, end api.End) {
	t.Helper()
	one, other := api.End{Dip: machine(t, 126), Port: 1, Weight: 1}, api.End{Dip: machine(t, 127), Port: 2, Weight: 2}
	checked(t, want, end)
	checked(t, want, end, one)
	checked(t, want, one, end)
	checked(t, want, one, end, other)
}

func TestCheckOfFields(t *testing.T) {
	dip := machine(t, 18)
	for _, port := range []int{0, 1, 80, 65534, 65535} {
		checkedAmong(t, nil, api.End{Dip: dip, Port: port, Weight: 1})
	}
	for _, port := range []int{-1, 65536, 65537, 1 << 32, 1<<32 + 80, math.MaxInt, math.MinInt, math.MinInt + 80} {
		checkedAmong(t, api.ErrForm, api.End{Dip: dip, Port: port, Weight: 1})
	}
	for weight := 1; weight <= 16; weight++ {
		checkedAmong(t, nil, api.End{Dip: dip, Weight: weight})
	}
	for _, weight := range []int{0, -1, -16, 17, 18, 1 << 32, 1<<32 + 1, math.MaxInt, math.MinInt, math.MinInt + 1} {
		checkedAmong(t, api.ErrForm, api.End{Dip: dip, Weight: weight})
	}
	for _, none := range []api.Addr{0, 1, 0x0a000030, 0x0a010010, 0x0a0100ff, 0x0a010800, 0x0a020000, 0x09010000, 0x01010101, 0xffffffff} {
		checkedAmong(t, api.ErrForm, api.End{Dip: none, Port: 80, Weight: 1})
	}
}

func TestCheckRefusesTwoOfOneMachine(t *testing.T) {
	g := generator(13)
	for range 200 {
		ends := someEnds(t, g, 1+g.IntN(63))
		twin := ends[g.IntN(len(ends))]
		if g.IntN(2) == 0 {
			twin.Port, twin.Weight = twin.Port^1, 17-twin.Weight
		}
		checked(t, nil, ends...)
		checked(t, api.ErrForm, slices.Insert(slices.Clone(ends), g.IntN(len(ends)+1), twin)...)
	}
}

// P9.1: Choose

func someFlow(g *rand.Rand) api.Flow {
	proto := api.TCP
	if g.IntN(2) == 0 {
		proto = api.UDP
	}
	return api.Flow{Proto: proto, Src: api.Addr(g.Uint32()), SrcPort: g.IntN(65536), Dst: api.Addr(g.Uint32()), DstPort: g.IntN(65536)}
}

// scored is the choice as the chapter says, worked out by all scores at once.
func scored(f api.Flow, ends []api.End) (api.End, bool) {
	type row struct {
		score uint64
		end   api.End
	}
	var rows []row
	for _, end := range ends {
		for j := range 16 {
			if j < end.Weight {
				rows = append(rows, row{addr.Hash(uint64(end.Dip)<<8|uint64(j), f), end})
			}
		}
	}
	slices.SortStableFunc(rows, func(a, b row) int { return cmp.Compare(b.score, a.score) })
	if len(rows) == 0 {
		return api.End{}, false
	}
	return rows[0].end, true
}

func chosen(t *testing.T, f api.Flow, want api.End, ends ...api.End) {
	t.Helper()
	if got, ok := ring.Choose(f, ends...); got != want || !ok {
		t.Fatalf("Choose(%v, %.300v) = %v, %v, want %v", f, ends, got, ok, want)
	}
}

func noneChosen(t *testing.T, f api.Flow, ends ...api.End) {
	t.Helper()
	if got, ok := ring.Choose(f, ends...); got != (api.End{}) || ok {
		t.Fatalf("Choose(%v, %.300v) = %v, %v, want none", f, ends, got, ok)
	}
}

func TestExamplesOfChoices(t *testing.T) {
	g := generator(14)
	for range 200 {
		f := someFlow(g)
		noneChosen(t, f)
		for _, end := range someEnds(t, g, 8) {
			chosen(t, f, end, end)
		}
	}
}

// The choices, as places among TestKnownChoices' ends, were worked out from the chapters' words apart from this program.
var knownChoices = []struct{ port, all, light int }{
	{0, 2, 0},
	{1, 2, 1},
	{2, 2, 0},
	{3, 2, 1},
	{80, 2, 0},
	{443, 2, 1},
	{5000, 2, 0},
	{5001, 2, 1},
	{5002, 1, 1},
	{5003, 2, 1},
	{5009, 2, 0},
	{5017, 0, 0},
	{65535, 1, 1},
}

func TestKnownChoices(t *testing.T) {
	for _, c := range knownChoices {
		ends := []api.End{{Dip: 0x0a010002, Port: 8080, Weight: 1}, {Dip: 0x0a010103, Port: 80, Weight: 2}, {Dip: 0x0a01070f, Port: 0, Weight: 16}}
		f := api.Flow{Proto: api.TCP, Src: 0x08080808, SrcPort: c.port, Dst: 0x01010101, DstPort: 80}
		chosen(t, f, ends[c.all], ends...)
		chosen(t, f, ends[c.light], ends[:2]...)
	}
}

func TestChoiceOfAnyFlow(t *testing.T) {
	g := generator(15)
	for range 2000 {
		f, ends := someFlow(g), someEnds(t, g, 1+g.IntN(20))
		want, _ := scored(f, ends)
		chosen(t, f, want, ends...)
		g.Shuffle(len(ends), func(i, j int) { ends[i], ends[j] = ends[j], ends[i] })
		chosen(t, f, want, ends...)
	}
}

func TestChoiceAmongMoreThanAServiceMayHave(t *testing.T) {
	g := generator(16)
	for range 50 {
		f, ends := someFlow(g), someEnds(t, g, 128)
		want, _ := scored(f, ends)
		chosen(t, f, want, ends...)
	}
}

func TestChoiceOfFlowsOutOfForm(t *testing.T) {
	g := generator(17)
	ends := someEnds(t, g, 16)
	for _, f := range []api.Flow{
		{}, {Proto: -1, SrcPort: -1, DstPort: -1}, {Proto: 1, Src: 1, SrcPort: 65536, Dst: 2, DstPort: 1 << 40},
		{Proto: math.MaxInt, Src: math.MaxUint32, SrcPort: math.MaxInt, Dst: math.MaxUint32, DstPort: math.MinInt},
	} {
		want, _ := scored(f, ends)
		chosen(t, f, want, ends...)
	}
}

func TestWeightsOutOfForm(t *testing.T) {
	g := generator(18)
	below := []int{0, -1, -16, math.MinInt}
	above := []int{17, 18, 256, 1 << 32, math.MaxInt}
	for range 300 {
		f, ends := someFlow(g), someEnds(t, g, 6)
		want, _ := scored(f, ends)
		for _, weight := range below {
			absent := api.End{Dip: machine(t, g.IntN(128)), Port: 1, Weight: weight}
			noneChosen(t, f, absent, absent)
			chosen(t, f, want, slices.Insert(slices.Clone(ends), g.IntN(7), absent)...)
		}
		for _, weight := range above {
			heavy := slices.Clone(ends)
			heavy[2].Weight = 16
			want, _ := scored(f, heavy)
			if want == heavy[2] {
				want.Weight = weight
			}
			heavy[2].Weight = weight
			chosen(t, f, want, heavy...)
		}
	}
}

func TestChoiceAmongOddEnds(t *testing.T) {
	g := generator(19)
	for range 1000 {
		var ends []api.End
		for range 5 {
			ends = append(ends, api.End{Dip: api.Addr(g.Uint32()), Port: g.IntN(1<<20) - 1<<19, Weight: g.IntN(25) - 4})
		}
		f := someFlow(g)
		if want, ok := scored(f, ends); ok {
			chosen(t, f, want, ends...)
		} else {
			noneChosen(t, f, ends...)
		}
	}
	f := someFlow(g)
	for _, dip := range []api.Addr{0, 1, math.MaxUint32} {
		end := api.End{Dip: dip, Port: -1, Weight: 3}
		chosen(t, f, end, end)
	}
}

func TestOfEqualScoresTheFirst(t *testing.T) {
	g := generator(20)
	for range 200 {
		f, dip := someFlow(g), machine(t, g.IntN(128))
		one, other := api.End{Dip: dip, Port: 1, Weight: 7}, api.End{Dip: dip, Port: 2, Weight: 7}
		chosen(t, f, one, one, other)
		chosen(t, f, other, other, one)
		chosen(t, f, one, one, other, one)
	}
}

// Of this end and this flow the one score is 0.
func TestAScoreOfNoughtIsOneToo(t *testing.T) {
	f := api.Flow{Proto: api.TCP, Src: 0x9d100fb4, SrcPort: 0xb7e7, Dst: 0x79d064f0, DstPort: 0xd923}
	end := api.End{Dip: 0x841adf71, Port: 80, Weight: 1}
	if score := addr.Hash(uint64(end.Dip)<<8, f); score != 0 {
		t.Fatalf("%#x", score)
	}
	chosen(t, f, end, end)
	chosen(t, f, end, end, api.End{Dip: end.Dip, Port: 81, Weight: 1})
	other := api.End{Dip: machine(t, 0), Port: 80, Weight: 1}
	chosen(t, f, other, end, other)
	chosen(t, f, other, other, end)
}

// P9.2

func TestOwnersStayWithoutAMember(t *testing.T) {
	g := generator(21)
	for range 20 {
		points, members := 1+g.IntN(16), someMembers(g, 2+g.IntN(8))
		r := made(t, points, members...)
		for _, gone := range members {
			fewer := without(t, r, gone)
			for _, key := range append(keysAround(points, members), g.Uint64(), g.Uint64()) {
				all := r.Owners(key, math.MaxInt)
				left := slices.DeleteFunc(slices.Clone(all), func(member int) bool { return member == gone })
				if len(left) != len(members)-1 {
					t.Fatalf("Owners(%#x) = %v of %v", key, all, members)
				}
				owners(t, fewer, key, math.MaxInt, left)
			}
		}
	}
}

func TestOwnersStayWithAMember(t *testing.T) {
	g := generator(22)
	for range 20 {
		members := someMembers(g, 9)
		r := made(t, 8, members[:8]...)
		more := with(t, r, members[8])
		for range 200 {
			key := g.Uint64()
			left := slices.DeleteFunc(more.Owners(key, 9), func(member int) bool { return member == members[8] })
			owners(t, r, key, 8, left)
		}
	}
}

// P9.3

func TestChoiceStaysWithoutAnother(t *testing.T) {
	g := generator(23)
	for range 500 {
		f, ends := someFlow(g), someEnds(t, g, 2+g.IntN(12))
		was, _ := ring.Choose(f, ends...)
		for i, end := range ends {
			left := slices.Delete(slices.Clone(ends), i, i+1)
			now, ok := ring.Choose(f, left...)
			if end == was && (!ok || now == was) || end != was && (!ok || now != was) {
				t.Fatalf("%v: %v was chosen of %v, %v without %v", f, was, ends, now, end)
			}
		}
	}
}

func TestNoFlowGoesFromAnEndThatGrows(t *testing.T) {
	g := generator(24)
	came, stayed := 0, 0
	for range 500 {
		f, ends := someFlow(g), someEnds(t, g, 2+g.IntN(12))
		was, _ := ring.Choose(f, ends...)
		for i, end := range ends {
			for weight := end.Weight; weight <= api.MaxWeight+1; weight++ {
				grown := slices.Clone(ends)
				grown[i].Weight = weight
				now, ok := ring.Choose(f, grown...)
				switch {
				case ok && now == grown[i] && end != was:
					came++
				case ok && now == grown[i], ok && now == was && end != was:
					stayed++
				default:
					t.Fatalf("%v: %v was chosen of %v, %v when %v grew to %d", f, was, ends, now, end, weight)
				}
			}
		}
	}
	if came == 0 || stayed == 0 {
		t.Errorf("%d came, %d stayed", came, stayed)
	}
}

// P9.4

func TestMembersHandedInAreNotChangedOrKept(t *testing.T) {
	// What stands behind the sixth is spare room of the lists that are handed in.
	row := []int{35, 33, 34, 32, 36, 37, 1, 2, 3, 4, 5, 6, 7, 8, 9, 10}
	was := slices.Clone(row)
	unchanged := func() {
		t.Helper()
		if !slices.Equal(row, was) {
			t.Fatalf("%v became %v", was, row)
		}
	}
	r := made(t, 4, row[:3]...)
	unchanged()
	more := with(t, r, row[3:5]...)
	unchanged()
	fewer := without(t, more, row[1:3]...)
	unchanged()
	if _, err := r.With(row[:6]...); err == nil {
		t.Error("With of members that are there")
	}
	unchanged()
	for i := range row {
		row[i] = i
	}
	holds(t, r, 4, 33, 34, 35)
	holds(t, more, 4, 32, 33, 34, 35, 36)
	holds(t, fewer, 4, 32, 35, 36)
}

func TestAnswersAreNewMemory(t *testing.T) {
	r := made(t, 4, 34, 32, 33)
	for range 3 {
		spoil(r.Members())
		spoil(r.Owners(5, 2))
		spoil(r.Owners(5, 9))
		holds(t, r, 4, 32, 33, 34)
	}
	members, all := r.Members(), r.Owners(5, 3)
	spoil(r.Members())
	spoil(r.Owners(5, 3))
	if !slices.Equal(members, []int{32, 33, 34}) || !slices.Equal(all, ordered(4, members, 5)) {
		t.Errorf("%v, %v", members, all)
	}
}

// spoil writes over a list and over its spare room.
func spoil(list []int) {
	list = list[:cap(list)]
	for i := range list {
		list[i] = -7
	}
}

func TestRingsAreApart(t *testing.T) {
	r := made(t, 4, 32, 33, 34)
	var rings []*ring.Ring
	for extra := 40; extra < 50; extra++ {
		rings = append(rings, with(t, r, extra), without(t, r, 33))
	}
	for i, other := range rings {
		spoil(other.Members())
		if i%2 == 0 {
			holds(t, other, 4, 32, 33, 34, 40+i/2)
		} else {
			holds(t, other, 4, 32, 34)
		}
	}
	holds(t, r, 4, 32, 33, 34)
}

func TestEndsHandedInAreNotChanged(t *testing.T) {
	g := generator(25)
	row := someEnds(t, g, 20)
	row[3].Weight, row[7].Weight, row[9].Dip = 0, 99, row[8].Dip
	was := slices.Clone(row)
	for range 50 {
		ring.Choose(someFlow(g), row...)
		ring.Choose(someFlow(g), row[:5]...)
		checked(t, api.ErrForm, row...)
		checked(t, nil, row[:3]...)
		if !slices.Equal(row, was) {
			t.Fatalf("%v became %v", was, row)
		}
	}
}
