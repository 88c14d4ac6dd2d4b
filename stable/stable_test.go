package stable_test

import (
	"bytes"
	"errors"
	"math"
	"math/rand/v2"
	"slices"
	"strings"
	"testing"
	"unsafe"

	"towpath/api"
	"towpath/stable"
)

const maxSize = 1 << 26

var (
	notSizes = []int{-1, -2, -64, maxSize + 1, maxSize + 2, 2 * maxSize, 1 << 32, 1<<32 + 1, math.MaxInt, math.MaxInt - 1, math.MinInt, math.MinInt + 1}
	notKeys  = []string{"", strings.Repeat("k", 65), strings.Repeat("k", 66), strings.Repeat("\x00", 65), strings.Repeat("é", 33), strings.Repeat("k", 128), strings.Repeat("k", 1<<16)}
)

// pair is a key with its row.
type pair struct{ key, row string }

func generator(seed uint64) *rand.Rand {
	return rand.New(rand.NewPCG(seed, 13))
}

// made is a store that there must be.
func made(t *testing.T, size int) *stable.Store {
	t.Helper()
	s, err := stable.New(size)
	if s == nil || err != nil {
		t.Fatalf("New(%d) = %v, %v", size, s, err)
	}
	return s
}

func split(parts []string) [][]byte {
	var rows [][]byte
	for _, part := range parts {
		rows = append(rows, []byte(part))
	}
	return rows
}

func put(t *testing.T, s *stable.Store, key string, parts ...string) {
	t.Helper()
	if err := s.Put(key, split(parts)...); err != nil {
		t.Fatalf("Put(%.80q, %.80q) = %v", key, parts, err)
	}
}

func notPut(t *testing.T, s *stable.Store, want error, key string, parts ...string) {
	t.Helper()
	if err := s.Put(key, split(parts)...); !errors.Is(err, want) {
		t.Fatalf("Put(%.80q, %.80q) = %v, want %v", key, parts, err, want)
	}
}

func dropped(t *testing.T, s *stable.Store, want int, keys ...string) {
	t.Helper()
	if got := s.Drop(keys...); got != want {
		t.Fatalf("Drop(%.80q) = %d, want %d", keys, got, want)
	}
}

func synced(t *testing.T, s *stable.Store, want int) {
	t.Helper()
	if got := s.Sync(); got != want {
		t.Fatalf("Sync() = %d, want %d", got, want)
	}
}

func crashed(t *testing.T, s *stable.Store, want int) {
	t.Helper()
	if got := s.Crash(); got != want {
		t.Fatalf("Crash() = %d, want %d", got, want)
	}
}

// misses asks for keys that aren't there.
func misses(t *testing.T, s *stable.Store, keys ...string) {
	t.Helper()
	for _, key := range keys {
		if row, err := s.Get(key); row != nil || !errors.Is(err, api.ErrGone) {
			t.Fatalf("Get(%.80q) = %.80q, %v, want nil, %v", key, row, err, api.ErrGone)
		}
	}
}

// holds asks all that can be asked of a store without a change of it: it has these pairs, told in the order of their keys, and no others.
func holds(t *testing.T, s *stable.Store, list ...pair) {
	t.Helper()
	var keys []string
	used := 0
	for _, p := range list {
		if row, err := s.Get(p.key); string(row) != p.row || err != nil {
			t.Fatalf("Get(%.80q) = %.80q, %v, want %.80q, nil", p.key, row, err, p.row)
		}
		keys = append(keys, p.key)
		used += len(p.key) + len(p.row)
	}
	if got := s.Keys(); !slices.Equal(got, keys) {
		t.Fatalf("Keys() = %.200q, want %.200q", got, keys)
	}
	if got := s.Used(); got != used {
		t.Fatalf("Used() = %d, want %d", got, used)
	}
	misses(t, s, notKeys...)
}

// P13.1

func TestExample(t *testing.T) {
	s := made(t, 100)
	put(t, s, "a", "x")
	synced(t, s, 1)
	put(t, s, "a", "y")
	put(t, s, "b", "z")
	crashed(t, s, 2)
	holds(t, s, pair{"a", "x"})
	misses(t, s, "b")
}

func TestNewTakesSizes(t *testing.T) {
	for _, size := range []int{0, 1, 2, 63, 64, 65, 1000, 1 << 16, maxSize - 1, maxSize} {
		s := made(t, size)
		holds(t, s)
		crashed(t, s, 0)
		synced(t, s, 0)
		crashed(t, s, 0)
		holds(t, s)
	}
}

func TestNewRefusesOtherSizes(t *testing.T) {
	for _, size := range notSizes {
		if s, err := stable.New(size); s != nil || !errors.Is(err, api.ErrRange) {
			t.Errorf("New(%d) = %v, %v, want nil, %v", size, s, err, api.ErrRange)
		}
	}
}

func TestAllSizesOfKeys(t *testing.T) {
	s := made(t, 1<<16)
	var list []pair
	for n := 1; n <= 64; n++ {
		key := strings.Repeat("k", n)
		misses(t, s, key)
		put(t, s, key, "row")
		list = append(list, pair{key, "row"})
		holds(t, s, list...)
	}
	synced(t, s, 64)
}

func TestPutRefusesOtherKeys(t *testing.T) {
	s := made(t, 20)
	put(t, s, "a", "x")
	for _, key := range notKeys {
		notPut(t, s, api.ErrForm, key)
		notPut(t, s, api.ErrForm, key, "row")
		notPut(t, s, api.ErrForm, key, "a row that finds no room in the store")
		dropped(t, s, 0, key)
		holds(t, s, pair{"a", "x"})
	}
	synced(t, s, 1)
}

// A key is bytes, whatever they say as text.
func TestKeysRiseByteByByte(t *testing.T) {
	rising := []string{"\x00", "\x00\x00", "\x00\xff", " ", "0", "10", "9", "A", "B", "Z", "a", "a\x00", "a\x00b", "aa", "ab", "b", "z", "é", "日本", "\xc3", "\xfe", "\xff", "\xff\x00", strings.Repeat("\xff", 64)}
	slices.Sort(rising)
	for seed := range uint64(20) {
		s := made(t, 1000)
		for _, i := range generator(seed).Perm(len(rising)) {
			put(t, s, rising[i], "row ", rising[i])
		}
		var list []pair
		for _, key := range rising {
			list = append(list, pair{key, "row " + key})
		}
		holds(t, s, list...)
		dropped(t, s, 2, rising[0], "none", rising[5])
		holds(t, s, slices.Concat(list[1:5], list[6:])...)
	}
}

func TestKeysAreHeldApart(t *testing.T) {
	s := made(t, 1000)
	put(t, s, "a", "x")
	misses(t, s, "A", "a ", " a", "aa", "a\x00", "\x00a", "b")
	dropped(t, s, 0, "A", "a ", "a\x00", "aa")
	put(t, s, "A", "X")
	put(t, s, "a\x00", "")
	holds(t, s, pair{"A", "X"}, pair{"a", "x"}, pair{"a\x00", ""})
	dropped(t, s, 1, "a")
	holds(t, s, pair{"A", "X"}, pair{"a\x00", ""})
}

func TestPutPutsPartsBehindOneAnother(t *testing.T) {
	s := made(t, 1000)
	put(t, s, "a", "one", "", "two", "\x00\xff", "", "three")
	put(t, s, "b", "", "")
	put(t, s, "c")
	put(t, s, "d", "only")
	holds(t, s, pair{"a", "onetwo\x00\xffthree"}, pair{"b", ""}, pair{"c", ""}, pair{"d", "only"})
	if err := s.Put("e", nil, []byte("1"), nil, []byte{}); err != nil {
		t.Fatal(err)
	}
	if err := s.Put("f", nil); err != nil {
		t.Fatal(err)
	}
	holds(t, s, pair{"a", "onetwo\x00\xffthree"}, pair{"b", ""}, pair{"c", ""}, pair{"d", "only"}, pair{"e", "1"}, pair{"f", ""})
}

func TestPutOfManyParts(t *testing.T) {
	s := made(t, 1<<17+1)
	row := strings.Repeat("12", 1<<16)
	put(t, s, "k", strings.Split(row, "")...)
	holds(t, s, pair{"k", row})
	notPut(t, s, api.ErrFull, "k", strings.Split(row+"3", "")...)
	holds(t, s, pair{"k", row})
}

func TestPutTakesThePlaceOfWhatThereWas(t *testing.T) {
	s := made(t, 20)
	put(t, s, "a", "first")
	put(t, s, "b", "other")
	put(t, s, "a", "2")
	holds(t, s, pair{"a", "2"}, pair{"b", "other"})
	put(t, s, "a")
	holds(t, s, pair{"a", ""}, pair{"b", "other"})
	put(t, s, "a", "the third row")
	holds(t, s, pair{"a", "the third row"}, pair{"b", "other"})
	put(t, s, "a", "the third row")
	holds(t, s, pair{"a", "the third row"}, pair{"b", "other"})
}

func TestPutFillsAllOfTheRoom(t *testing.T) {
	for size := 1; size <= 70; size++ {
		s := made(t, size)
		notPut(t, s, api.ErrFull, "k", strings.Repeat("r", size))
		notPut(t, s, api.ErrFull, "k", strings.Repeat("r", size-1), "r")
		holds(t, s)
		put(t, s, "k", strings.Repeat("r", size-1))
		holds(t, s, pair{"k", strings.Repeat("r", size-1)})
		notPut(t, s, api.ErrFull, "l")
	}
}

func TestARowsRoomIsFreeForItsFollower(t *testing.T) {
	s := made(t, 10)
	put(t, s, "a", "1234")
	put(t, s, "bb", "123")
	holds(t, s, pair{"a", "1234"}, pair{"bb", "123"})
	notPut(t, s, api.ErrFull, "c")
	notPut(t, s, api.ErrFull, "a", "12345")
	notPut(t, s, api.ErrFull, "bb", "123", "4")
	holds(t, s, pair{"a", "1234"}, pair{"bb", "123"})
	put(t, s, "a", "4321")
	put(t, s, "bb", "12")
	put(t, s, "a", "54321")
	holds(t, s, pair{"a", "54321"}, pair{"bb", "12"})
	dropped(t, s, 1, "bb")
	put(t, s, "a", "987654321")
	notPut(t, s, api.ErrFull, "a", "9876543210")
	holds(t, s, pair{"a", "987654321"})
	dropped(t, s, 1, "a")
	put(t, s, "0123456789")
	notPut(t, s, api.ErrFull, "0123456789", "0")
	notPut(t, s, api.ErrFull, "01234567890")
	holds(t, s, pair{"0123456789", ""})
}

// Pairs that a crash brings back, or takes away, have their room as all others.
func TestRoomFollowsACrash(t *testing.T) {
	s := made(t, 8)
	put(t, s, "a", "123")
	synced(t, s, 1)
	dropped(t, s, 1, "a")
	put(t, s, "b", "1234567")
	notPut(t, s, api.ErrFull, "a")
	crashed(t, s, 2)
	put(t, s, "b", "123")
	notPut(t, s, api.ErrFull, "b", "1234")
	notPut(t, s, api.ErrFull, "a", "1234")
	holds(t, s, pair{"a", "123"}, pair{"b", "123"})
	crashed(t, s, 1)
	notPut(t, s, api.ErrFull, "b", "1234")
	put(t, s, "a", "1234567")
	holds(t, s, pair{"a", "1234567"})
	dropped(t, s, 1, "a")
	synced(t, s, 1)
	put(t, s, "c", "1234567")
	crashed(t, s, 1)
	put(t, s, "d", "1234567")
	holds(t, s, pair{"d", "1234567"})
}

func TestAStoreOfNoRoom(t *testing.T) {
	withoutRoom(t, made(t, 0))
}

func TestNilIsOfNoRoom(t *testing.T) {
	withoutRoom(t, nil)
}

// withoutRoom asks a store for all things that takes no pair.
func withoutRoom(t *testing.T, s *stable.Store) {
	t.Helper()
	for range 2 {
		for _, key := range []string{"a", "b", "\x00", strings.Repeat("k", 64)} {
			notPut(t, s, api.ErrFull, key)
			notPut(t, s, api.ErrFull, key, "")
			notPut(t, s, api.ErrFull, key, "row", "row")
			misses(t, s, key)
			dropped(t, s, 0, key, key)
		}
		for _, key := range notKeys {
			notPut(t, s, api.ErrForm, key)
			notPut(t, s, api.ErrForm, key, "row")
		}
		holds(t, s)
		dropped(t, s, 0)
		dropped(t, s, 0, notKeys...)
		synced(t, s, 0)
		crashed(t, s, 0)
		crashed(t, s, 0)
		holds(t, s)
	}
}

func TestGetTellsRowsAlone(t *testing.T) {
	s := made(t, 100)
	misses(t, s, "a", "", "b")
	put(t, s, "a")
	if row, err := s.Get("a"); len(row) != 0 || err != nil {
		t.Fatalf("Get(a) = %q, %v", row, err)
	}
	put(t, s, "a", "x")
	misses(t, s, "x", "b", "")
	dropped(t, s, 1, "a")
	misses(t, s, "a")
}

func TestDropTellsHowManyWereThere(t *testing.T) {
	s := made(t, 100)
	for _, key := range []string{"a", "b", "c", "d", "e"} {
		put(t, s, key, "row of ", key)
	}
	put(t, s, "f")
	dropped(t, s, 0)
	dropped(t, s, 0, "g", "h", "")
	dropped(t, s, 1, "b", "b", "b")
	holds(t, s, pair{"a", "row of a"}, pair{"c", "row of c"}, pair{"d", "row of d"}, pair{"e", "row of e"}, pair{"f", ""})
	dropped(t, s, 3, "f", "b", "c", "g", "f", "a", "c")
	holds(t, s, pair{"d", "row of d"}, pair{"e", "row of e"})
	dropped(t, s, 2, "e", "d")
	holds(t, s)
	dropped(t, s, 0, "a", "b", "c", "d", "e", "f")
	holds(t, s)
}

func TestSyncCountsWhatDiffers(t *testing.T) {
	s := made(t, 1000)
	synced(t, s, 0)
	for _, key := range []string{"a", "b", "c", "d", "e"} {
		put(t, s, key, "1")
	}
	put(t, s, "empty")
	synced(t, s, 6)
	synced(t, s, 0)

	put(t, s, "a", "2")
	put(t, s, "b", "12")
	dropped(t, s, 1, "c")
	put(t, s, "f", "1")
	put(t, s, "none")
	synced(t, s, 5)
	synced(t, s, 0)

	dropped(t, s, 2, "empty", "none")
	synced(t, s, 2)
	put(t, s, "none")
	put(t, s, "a")
	synced(t, s, 2)
	holds(t, s, pair{"a", ""}, pair{"b", "12"}, pair{"d", "1"}, pair{"e", "1"}, pair{"f", "1"}, pair{"none", ""})
	dropped(t, s, 6, s.Keys()...)
	synced(t, s, 6)
	synced(t, s, 0)
}

func TestCrashCountsWhatDiffers(t *testing.T) {
	s := made(t, 1000)
	put(t, s, "a")
	crashed(t, s, 1)
	holds(t, s)
	kept := []pair{{"a", "1"}, {"b", "1"}, {"c", ""}, {"d", "1"}, {"e", ""}}
	for _, p := range kept {
		put(t, s, p.key, p.row)
	}
	synced(t, s, 5)
	crashed(t, s, 0)
	holds(t, s, kept...)

	put(t, s, "a", "2")
	put(t, s, "b")
	dropped(t, s, 2, "c", "d")
	put(t, s, "f")
	put(t, s, "g", "1")
	crashed(t, s, 6)
	holds(t, s, kept...)

	put(t, s, "e", "1")
	put(t, s, "c", "")
	crashed(t, s, 1)
	holds(t, s, kept...)

	dropped(t, s, 5, s.Keys()...)
	crashed(t, s, 5)
	holds(t, s, kept...)
}

// What a key had in the meantime counts for nothing.
func TestValuesBetweenDoNotCount(t *testing.T) {
	for _, count := range []func(*testing.T, *stable.Store, int){synced, crashed} {
		s := made(t, 1000)
		put(t, s, "a", "one", "two")
		put(t, s, "b")
		synced(t, s, 2)

		put(t, s, "a", "other")
		put(t, s, "a", "o", "netw", "o")
		dropped(t, s, 1, "b")
		put(t, s, "b", "other")
		put(t, s, "b")
		put(t, s, "c", "row")
		dropped(t, s, 1, "c")
		count(t, s, 0)
		holds(t, s, pair{"a", "onetwo"}, pair{"b", ""})

		for range 3 {
			put(t, s, "a", "2")
			put(t, s, "a", "3")
			put(t, s, "c", "1")
			put(t, s, "c", "2")
		}
		count(t, s, 2)
	}
}

// A crash comes to what was synced last, not to what was there when it was put.
func TestSyncFollowsACrash(t *testing.T) {
	s := made(t, 1000)
	put(t, s, "a", "1")
	synced(t, s, 1)
	put(t, s, "a", "2")
	crashed(t, s, 1)
	synced(t, s, 0)
	put(t, s, "a", "2")
	put(t, s, "b", "1")
	synced(t, s, 2)
	dropped(t, s, 1, "a")
	crashed(t, s, 1)
	synced(t, s, 0)
	crashed(t, s, 0)
	holds(t, s, pair{"a", "2"}, pair{"b", "1"})
}

func TestRefusalsChangeNothing(t *testing.T) {
	s := made(t, 10)
	put(t, s, "a", "old")
	put(t, s, "b", "1")
	synced(t, s, 2)
	put(t, s, "b", "2")
	put(t, s, "c")
	refuse := func() {
		t.Helper()
		notPut(t, s, api.ErrFull, "a", "1234567")
		notPut(t, s, api.ErrFull, "d", "123")
		notPut(t, s, api.ErrForm, "", "1")
		notPut(t, s, api.ErrForm, strings.Repeat("k", 65))
		misses(t, s, "d", "")
		dropped(t, s, 0, "d", "")
	}
	refuse()
	holds(t, s, pair{"a", "old"}, pair{"b", "2"}, pair{"c", ""})
	synced(t, s, 2)
	refuse()
	crashed(t, s, 0)
	refuse()
	holds(t, s, pair{"a", "old"}, pair{"b", "2"}, pair{"c", ""})
}

func TestStoresAreApart(t *testing.T) {
	one, other := made(t, 10), made(t, 10)
	put(t, one, "a", "x")
	holds(t, other)
	put(t, other, "a", "y")
	put(t, other, "b", "1234567")
	synced(t, other, 2)
	crashed(t, one, 1)
	holds(t, one)
	holds(t, other, pair{"a", "y"}, pair{"b", "1234567"})
	put(t, one, "b", "x")
	synced(t, one, 1)
	dropped(t, other, 2, "a", "b")
	holds(t, one, pair{"b", "x"})
}

func TestTheGreatestStore(t *testing.T) {
	s := made(t, maxSize)
	half := make([]byte, maxSize/2)
	half[0], half[len(half)-1] = 1, 2
	if err := s.Put("k", half, half); !errors.Is(err, api.ErrFull) {
		t.Fatal(err)
	}
	if err := s.Put("k", half, half[1:]); err != nil {
		t.Fatal(err)
	}
	if s.Used() != maxSize || s.Sync() != 1 {
		t.Fatal("not all of the room is used")
	}
	notPut(t, s, api.ErrFull, "l")
	notPut(t, s, api.ErrForm, "")
	if row, err := s.Get("k"); err != nil || !bytes.Equal(row, slices.Concat(half, half[1:])) {
		t.Fatal("another row", len(row), err)
	}
	many := slices.Repeat([][]byte{half}, 1000)
	if err := s.Put("k", many...); !errors.Is(err, api.ErrFull) {
		t.Fatal(err)
	}
	put(t, s, "k")
	crashed(t, s, 1)
	if s.Used() != maxSize {
		t.Fatal("not all of the room is used", s.Used())
	}
}

func TestManyPairs(t *testing.T) {
	const many = 1 << 16
	s := made(t, maxSize)
	key := func(n int) string { return string([]byte{byte(n >> 8), byte(n)}) }
	for _, n := range generator(1).Perm(many) {
		put(t, s, key(n), key(n))
	}
	synced(t, s, many)
	for n := 0; n < many; n += 2 {
		dropped(t, s, 1, key(n))
	}
	for n := 1; n < many; n += 4 {
		put(t, s, key(n), "other")
	}
	if s.Used() != many*2+many/4*3 {
		t.Fatal("another size", s.Used())
	}
	crashed(t, s, many/2+many/4)
	if s.Used() != many*4 {
		t.Fatal("another size", s.Used())
	}
	for n, k := range s.Keys() {
		if k != key(n) {
			t.Fatalf("the key %d is %q", n, k)
		}
	}
}

// ledger is a store kept another way: all pairs in a list, and the list of the last sync.
type ledger struct {
	size          int
	current, kept []pair
}

func (l *ledger) place(key string) (int, bool) {
	return slices.BinarySearchFunc(l.current, key, func(p pair, key string) int { return strings.Compare(p.key, key) })
}

func (l *ledger) put(key string, parts ...string) error {
	if key == "" || len(key) > 64 {
		return api.ErrForm
	}
	next := slices.Clone(l.current)
	at, there := l.place(key)
	if there {
		next[at].row = strings.Join(parts, "")
	} else {
		next = slices.Insert(next, at, pair{key, strings.Join(parts, "")})
	}
	used := 0
	for _, p := range next {
		used += len(p.key) + len(p.row)
	}
	if used > l.size {
		return api.ErrFull
	}
	l.current = next
	return nil
}

func (l *ledger) drop(keys ...string) int {
	count := 0
	for _, key := range keys {
		if at, there := l.place(key); there {
			l.current = slices.Concat(l.current[:at], l.current[at+1:])
			count++
		}
	}
	return count
}

// differences is counted of the keys alone that a pair stands for that the other list doesn't have.
func (l *ledger) differences() int {
	differs := map[string]struct{}{}
	for _, p := range l.current {
		if !slices.Contains(l.kept, p) {
			differs[p.key] = struct{}{}
		}
	}
	for _, p := range l.kept {
		if !slices.Contains(l.current, p) {
			differs[p.key] = struct{}{}
		}
	}
	return len(differs)
}

func TestAnyOrderOfCalls(t *testing.T) {
	keys := []string{"a", "b", "ab", "B", "\x00", "\xff\xfe", "", strings.Repeat("k", 64), strings.Repeat("k", 65)}
	for seed := range uint64(300) {
		random := generator(seed)
		size := random.IntN(120)
		s, l := made(t, size), &ledger{size: size}
		key := func() string { return keys[random.IntN(len(keys))] }
		for range 200 {
			switch n := random.IntN(10); {
			case n < 5:
				k, parts := key(), make([]string, random.IntN(4))
				for i := range parts {
					parts[i] = strings.Repeat("r", random.IntN(6))
				}
				if want := l.put(k, parts...); want != nil {
					notPut(t, s, want, k, parts...)
				} else {
					put(t, s, k, parts...)
				}
			case n < 7:
				list := []string{key(), key()}[:random.IntN(3)]
				dropped(t, s, l.drop(list...), list...)
			case n < 8:
				synced(t, s, l.differences())
				l.kept = l.current
			case n < 9:
				crashed(t, s, l.differences())
				l.current = l.kept
			}
			holds(t, s, l.current...)
			for _, k := range keys {
				if _, there := l.place(k); !there {
					misses(t, s, k)
				}
			}
		}
	}
}

// P13.2

func TestBehindACrashIsWhatWasSynced(t *testing.T) {
	for seed := range uint64(200) {
		random := generator(seed)
		s := made(t, 200)
		change := func() {
			for range random.IntN(8) {
				k := string(rune('a' + random.IntN(6)))
				if random.IntN(3) == 0 {
					s.Drop(k)
				} else {
					put(t, s, k, strings.Repeat("r", random.IntN(5)), k)
				}
			}
		}
		var kept []pair
		for range 20 {
			change()
			if random.IntN(2) == 0 {
				s.Sync()
				kept = told(t, s)
			}
			change()
			s.Crash()
			holds(t, s, kept...)
			crashed(t, s, 0)
			crashed(t, s, 0)
			holds(t, s, kept...)
			synced(t, s, 0)
			crashed(t, s, 0)
			holds(t, s, kept...)
		}
	}
}

// told is the pairs of a store, as it tells them.
func told(t *testing.T, s *stable.Store) []pair {
	t.Helper()
	var list []pair
	for _, key := range s.Keys() {
		row, err := s.Get(key)
		if err != nil {
			t.Fatalf("Get(%q) = %v", key, err)
		}
		list = append(list, pair{key, string(row)})
	}
	return list
}

func TestWithoutASyncNothingIsLeft(t *testing.T) {
	s := made(t, 100)
	put(t, s, "a", "x")
	put(t, s, "b")
	crashed(t, s, 2)
	holds(t, s)
	crashed(t, s, 0)
	put(t, s, "c", "z")
	holds(t, s, pair{"c", "z"})
	crashed(t, s, 1)
	holds(t, s)
}

// What is put, dropped or synced behind a crash leaves the pairs of the last sync as they were.
func TestCrashAfterCrash(t *testing.T) {
	s := made(t, 100)
	put(t, s, "a", "1")
	put(t, s, "b", "2")
	synced(t, s, 2)
	for range 5 {
		put(t, s, "a", "other")
		dropped(t, s, 1, "b")
		put(t, s, "c", "3")
		crashed(t, s, 3)
		holds(t, s, pair{"a", "1"}, pair{"b", "2"})
	}
	dropped(t, s, 1, "a")
	synced(t, s, 1)
	for range 5 {
		put(t, s, "b")
		crashed(t, s, 1)
		holds(t, s, pair{"b", "2"})
	}
}

// P13.3

func TestWhatIsHandedInIsNeitherChangedNorKept(t *testing.T) {
	s := made(t, 100)
	memory := []byte("123456789")
	parts := [][]byte{memory[:3], memory[4:6], []byte("keep")}
	keys := []string{"none", "a", "keep"}
	check := func(want string) {
		t.Helper()
		if string(memory) != want || len(parts[0]) != 3 || len(parts[1]) != 2 || string(parts[2]) != "keep" || !slices.Equal(keys, []string{"none", "a", "keep"}) {
			t.Fatalf("changed: %q, %q, %q", memory, parts, keys)
		}
	}
	if err := s.Put("a", parts[:2]...); err != nil {
		t.Fatal(err)
	}
	if err := s.Put("b", parts[:1]...); err != nil {
		t.Fatal(err)
	}
	check("123456789")
	holds(t, s, pair{"a", "12356"}, pair{"b", "123"})
	synced(t, s, 2)
	copy(memory, "987654321")
	holds(t, s, pair{"a", "12356"}, pair{"b", "123"})
	synced(t, s, 0)

	if err := s.Put("a", parts[:1]...); err != nil {
		t.Fatal(err)
	}
	notPut(t, s, api.ErrFull, "b", strings.Repeat("r", 100))
	dropped(t, s, 1, keys[:2]...)
	crashed(t, s, 1)
	check("987654321")
	clear(memory)
	holds(t, s, pair{"a", "12356"}, pair{"b", "123"})
}

func TestNoTextIsKept(t *testing.T) {
	s := made(t, 100)
	text := strings.Repeat("text", 10)
	for range 2 {
		put(t, s, text[4:8], text)
		if keys := s.Keys(); len(keys) != 1 || unsafe.StringData(keys[0]) == unsafe.StringData(text[4:8]) {
			t.Fatalf("Keys() = %q shares the text that was handed in", keys)
		}
	}
}

func TestAnswersAreNewMemory(t *testing.T) {
	s := made(t, 1000)
	row := strings.Repeat("row", 11)
	want := []pair{{"a", row}, {"b", ""}, {"c", "z"}}
	for _, p := range want {
		put(t, s, p.key, p.row)
	}
	spoil := func() {
		t.Helper()
		first, _ := s.Get("a")
		second, _ := s.Get("a")
		overwrite(first)
		if string(second) != row {
			t.Fatalf("Get(a) shares what it told: %q", second)
		}
		overwrite(second)
		none, _ := s.Get("b")
		overwrite(none)
		keys, others := s.Keys(), s.Keys()
		keys = keys[:cap(keys)]
		for i := range keys {
			keys[i] = "spoilt"
		}
		if !slices.Equal(others, []string{"a", "b", "c"}) {
			t.Fatalf("Keys() shares what it told: %q", others)
		}
		holds(t, s, want...)
	}
	spoil()
	synced(t, s, 3)
	spoil()
	crashed(t, s, 0)
	spoil()
	put(t, s, "a", "other")
	crashed(t, s, 1)
	holds(t, s, want...)
	spoil()
	synced(t, s, 0)
}

// overwrite changes all bytes of a row, those of its spare room too.
func overwrite(row []byte) {
	row = row[:cap(row)]
	for i := range row {
		row[i] = '#'
	}
}

// An answer that is handed in again is a row as any other one.
func TestAnswersMayBeHandedInAgain(t *testing.T) {
	s := made(t, 1000)
	put(t, s, "a", "1")
	put(t, s, "b", "2")
	for range 3 {
		one, _ := s.Get("a")
		other, _ := s.Get("b")
		if err := s.Put("a", one, other, one); err != nil {
			t.Fatal(err)
		}
		overwrite(one)
		overwrite(other)
	}
	holds(t, s, pair{"a", "121212121212121"}, pair{"b", "2"})
}
