package fabric_test

import (
	"bytes"
	"errors"
	"math"
	"math/big"
	"math/rand/v2"
	"runtime"
	"slices"
	"strconv"
	"testing"

	"towpath/api"
	"towpath/fabric"
)

var (
	nodes    = []int{0, 16, 17, 20, 23, 32, 33, 38, 39, 48, 49, 54, 55}
	notNodes = []int{-1, 1, 2, 8, 15, 24, 31, 40, 47, 56, 64, 255, 256, 1 << 16, 1<<32 + 16, -16, -32, math.MaxInt, math.MinInt}
)

func letter(id, from, to int, ctl bool, text string) api.Letter {
	return api.Letter{Id: id, From: from, To: to, Ctl: ctl, Bytes: []byte(text)}
}

func same(a, b api.Letter) bool {
	return a.Id == b.Id && a.From == b.From && a.To == b.To && a.Ctl == b.Ctl && bytes.Equal(a.Bytes, b.Bytes)
}

func isZero(l api.Letter) bool {
	return same(l, api.Letter{})
}

// send sends a letter, and wants it to have its Id.
func send(t *testing.T, f *fabric.Fabric, l api.Letter) {
	t.Helper()
	if id, err := f.Send(l.From, l.To, l.Ctl, l.Bytes); id != l.Id || err != nil {
		t.Fatalf("Send(%d, %d) = %d, %v, want %d", l.From, l.To, id, err, l.Id)
	}
}

func notSent(t *testing.T, f *fabric.Fabric, from, to int, want error) {
	t.Helper()
	if id, err := f.Send(from, to, true, []byte("no")); id != 0 || !errors.Is(err, want) {
		t.Fatalf("Send(%d, %d) = %d, %v, want %v", from, to, id, err, want)
	}
}

func copied(t *testing.T, f *fabric.Fabric, n, want int) {
	t.Helper()
	if id, err := f.Copy(n); id != want || err != nil {
		t.Fatalf("Copy(%d) = %d, %v, want %d", n, id, err, want)
	}
}

func notCopied(t *testing.T, f *fabric.Fabric, n int, want error) {
	t.Helper()
	if id, err := f.Copy(n); id != 0 || !errors.Is(err, want) {
		t.Fatalf("Copy(%d) = %d, %v, want %v", n, id, err, want)
	}
}

func seen(t *testing.T, f *fabric.Fabric, n int, want api.Letter) {
	t.Helper()
	if l, err := f.Nth(n); !same(l, want) || err != nil {
		t.Fatalf("Nth(%d) = %.60v, %v, want %.60v", n, l, err, want)
	}
}

func took(t *testing.T, f *fabric.Fabric, n int, want api.Letter) {
	t.Helper()
	if l, err := f.Take(n); !same(l, want) || err != nil {
		t.Fatalf("Take(%d) = %.60v, %v, want %.60v", n, l, err, want)
	}
}

// waits asks for the letters under way, and for how many there are.
func waits(t *testing.T, f *fabric.Fabric, want ...api.Letter) {
	t.Helper()
	if list := f.Waiting(); !slices.EqualFunc(list, want, same) {
		t.Fatalf("Waiting() = %.200v, want %.200v", list, want)
	}
	if f.Len() != len(want) {
		t.Fatalf("Len() = %d, want %d", f.Len(), len(want))
	}
}

func between(t *testing.T, f *fabric.Fabric, from, to int, want ...int) {
	t.Helper()
	if ids := f.Between(from, to); !slices.Equal(ids, want) {
		t.Fatalf("Between(%d, %d) = %v, want %v", from, to, ids, want)
	}
}

// holdsNone asks all that can be asked of a fabric without letters.
func holdsNone(t *testing.T, f *fabric.Fabric) {
	t.Helper()
	waits(t, f)
	for _, n := range []int{0, 1, -1, 7, 4096, math.MaxInt, math.MinInt} {
		if l, err := f.Nth(n); !isZero(l) || !errors.Is(err, api.ErrGone) {
			t.Fatalf("Nth(%d) = %v, %v, want %v", n, l, err, api.ErrGone)
		}
		if l, err := f.Take(n); !isZero(l) || !errors.Is(err, api.ErrGone) {
			t.Fatalf("Take(%d) = %v, %v, want %v", n, l, err, api.ErrGone)
		}
		notCopied(t, f, n, api.ErrGone)
	}
	for _, from := range nodes {
		between(t, f, from, 32)
	}
	between(t, f, -1, -1)
}

// counted are so many letters, each another one, the Ids from 1 on.
func counted(count int) []api.Letter {
	var list []api.Letter
	for i := range count {
		from, to := nodes[i%len(nodes)], nodes[i/len(nodes)%len(nodes)]
		list = append(list, letter(i+1, from, to, i%3 == 0, strconv.Itoa(i)))
	}
	return list
}

// holding is a fabric under which these letters are under way, as counted has them.
func holding(t *testing.T, list []api.Letter) *fabric.Fabric {
	t.Helper()
	f := fabric.New()
	for _, l := range list {
		send(t, f, l)
	}
	return f
}

// P8.1

func TestExample(t *testing.T) {
	f := fabric.New()
	send(t, f, letter(1, 0, 32, false, "a"))
	send(t, f, letter(2, 32, 48, true, "b"))
	took(t, f, 3, letter(2, 32, 48, true, "b"))
	copied(t, f, -1, 3)
	waits(t, f, letter(1, 0, 32, false, "a"), letter(3, 0, 32, false, "a"))
	notSent(t, f, 1, 0, api.ErrNode)
}

func TestNewHoldsNone(t *testing.T) {
	f := fabric.New()
	if f == nil {
		t.Fatal("New() is nil")
	}
	holdsNone(t, f)
	send(t, f, letter(1, 0, 0, false, ""))
}

func TestSendFromEachNodeToEach(t *testing.T) {
	f := fabric.New()
	var want []api.Letter
	for i, from := range nodes {
		for j, to := range nodes {
			l := letter(len(want)+1, from, to, (i+j)%2 == 0, strconv.Itoa(100*i+j))
			send(t, f, l)
			want = append(want, l)
		}
	}
	waits(t, f, want...)
	for n, l := range want {
		seen(t, f, n, l)
	}
}

func TestSendRefusesWhatIsNoNode(t *testing.T) {
	f := fabric.New()
	send(t, f, letter(1, 16, 32, true, "a"))
	for _, none := range notNodes {
		for _, node := range nodes {
			notSent(t, f, none, node, api.ErrNode)
			notSent(t, f, node, none, api.ErrNode)
		}
		notSent(t, f, none, none, api.ErrNode)
		notSent(t, f, none, -none, api.ErrNode)
	}
	waits(t, f, letter(1, 16, 32, true, "a"))
	send(t, f, letter(2, 16, 32, true, "b"))
}

func TestBytesOfAllLengths(t *testing.T) {
	f := fabric.New()
	var want []api.Letter
	for i, size := range []int{0, 1, 20, 28, 1499, 1500, 1501, 65536, 65537, 1 << 20} {
		row := make([]byte, size)
		for k := range row {
			row[k] = byte(k%251 + i)
		}
		l := api.Letter{Id: i + 1, From: 0, To: 32, Ctl: i%2 == 0, Bytes: row}
		send(t, f, l)
		want = append(want, l)
	}
	send(t, f, api.Letter{Id: 11, From: 0, To: 32})
	want = append(want, api.Letter{Id: 11, From: 0, To: 32})
	waits(t, f, want...)
	for n, l := range want {
		seen(t, f, n, l)
	}
	for _, l := range want {
		took(t, f, 0, l)
	}
	holdsNone(t, f)
}

func TestFullRefusesUntilALetterIsTaken(t *testing.T) {
	list := counted(api.MaxLetters)
	f := holding(t, list)
	for _, n := range []int{0, 1, -1, 4095, 4096} {
		notSent(t, f, 0, 32, api.ErrFull)
		notCopied(t, f, n, api.ErrFull)
	}
	notSent(t, f, 1, 32, api.ErrNode)
	notSent(t, f, 0, 31, api.ErrNode)
	waits(t, f, list...)

	took(t, f, 7, list[7])
	send(t, f, letter(4097, 0, 32, true, "new"))
	notSent(t, f, 0, 32, api.ErrFull)
	notCopied(t, f, 0, api.ErrFull)

	took(t, f, 0, list[0])
	copied(t, f, -1, 4098)
	notSent(t, f, 0, 32, api.ErrFull)
	notCopied(t, f, 0, api.ErrFull)
	want := slices.Concat(list[1:7], list[8:], []api.Letter{letter(4097, 0, 32, true, "new"), letter(4098, 0, 32, true, "new")})
	waits(t, f, want...)
}

func TestCopiesFillToo(t *testing.T) {
	f := fabric.New()
	send(t, f, letter(1, 48, 55, false, "a"))
	for id := 2; id <= api.MaxLetters; id++ {
		copied(t, f, id, id)
	}
	notCopied(t, f, 0, api.ErrFull)
	notSent(t, f, 48, 55, api.ErrFull)
	if ids := f.Between(48, 55); f.Len() != api.MaxLetters || len(ids) != api.MaxLetters || ids[0] != 1 || ids[4095] != 4096 {
		t.Errorf("Len() = %d, Between answers %d Ids", f.Len(), len(ids))
	}
}

func TestPlacesCountRound(t *testing.T) {
	for _, count := range []int{1, 2, 3, 4, 5, 7, 64, 100, 4095, 4096} {
		list := counted(count)
		f := holding(t, list)
		picks := []int{0, 1, 2, 3, 10, count - 1, count, count + 1, 2*count - 1, 2 * count, 5*count + 1, 1 << 32, math.MaxInt32, math.MaxInt - 1, math.MaxInt}
		for _, n := range picks {
			for _, pick := range []int{n, -n, -n - 1} {
				seen(t, f, pick, list[modulo(pick, count)])
			}
		}
		if f.Len() != count {
			t.Errorf("Len() = %d behind Nth, want %d", f.Len(), count)
		}
	}
}

// modulo is the number from 0 to count - 1 that differs from n by a multiple of count.
func modulo(n, count int) int {
	return int(new(big.Int).Mod(big.NewInt(int64(n)), big.NewInt(int64(count))).Int64())
}

func TestTakeCountsRound(t *testing.T) {
	for _, n := range []int{0, 1, 2, 3, 4, 5, 6, 4096, math.MaxInt, -1, -2, -3, -4, -5, -6, -4096, math.MinInt} {
		list := counted(5)
		f := holding(t, list)
		for len(list) > 0 {
			at := modulo(n, len(list))
			took(t, f, n, list[at])
			list = slices.Delete(list, at, at+1)
			waits(t, f, list...)
		}
		holdsNone(t, f)
	}
}

func TestCopyGoesBehindAll(t *testing.T) {
	for _, n := range []int{0, 1, 2, 3, 4, 7, math.MaxInt, -1, -2, -3, -4, -7, math.MinInt} {
		list := counted(3)
		f := holding(t, list)
		l := list[modulo(n, 3)]
		l.Id = 4
		copied(t, f, n, 4)
		waits(t, f, append(list, l)...)
		copied(t, f, 3, 5)
		seen(t, f, 4, letter(5, l.From, l.To, l.Ctl, string(l.Bytes)))
	}
}

func TestIdsAreNeverGivenAgain(t *testing.T) {
	f := fabric.New()
	send(t, f, letter(1, 0, 32, false, "a"))
	took(t, f, 0, letter(1, 0, 32, false, "a"))
	holdsNone(t, f)
	send(t, f, letter(2, 32, 0, false, "b"))
	copied(t, f, 0, 3)
	took(t, f, 1, letter(3, 32, 0, false, "b"))
	took(t, f, 0, letter(2, 32, 0, false, "b"))
	holdsNone(t, f)
	send(t, f, letter(4, 16, 17, true, "c"))
	waits(t, f, letter(4, 16, 17, true, "c"))
}

func TestBetween(t *testing.T) {
	f := fabric.New()
	send(t, f, letter(1, 0, 32, false, "a"))
	send(t, f, letter(2, 32, 0, false, "b"))
	send(t, f, letter(3, 0, 32, true, "c"))
	send(t, f, letter(4, 0, 33, false, "d"))
	send(t, f, letter(5, 16, 32, true, "e"))
	send(t, f, letter(6, 32, 32, true, "f"))
	copied(t, f, 0, 7)
	between(t, f, 0, 32, 1, 3, 7)
	between(t, f, 32, 0, 2)
	between(t, f, 0, 33, 4)
	between(t, f, 16, 32, 5)
	between(t, f, 32, 32, 6)
	for _, pair := range [][2]int{{0, 0}, {33, 0}, {32, 16}, {-1, 32}, {0, 31}, {1, 1}, {math.MinInt, math.MaxInt}} {
		between(t, f, pair[0], pair[1])
	}
	took(t, f, 2, letter(3, 0, 32, true, "c"))
	between(t, f, 0, 32, 1, 7)
	took(t, f, 1, letter(2, 32, 0, false, "b"))
	between(t, f, 32, 0)
}

func TestNilHoldsNoneAndIsFull(t *testing.T) {
	var f *fabric.Fabric
	holdsNone(t, f)
	for _, node := range nodes {
		notSent(t, f, node, 0, api.ErrFull)
		notSent(t, f, 55, node, api.ErrFull)
	}
	for _, none := range notNodes {
		notSent(t, f, none, 0, api.ErrNode)
		notSent(t, f, 0, none, api.ErrNode)
	}
	holdsNone(t, f)
}

func TestFabricsAreApart(t *testing.T) {
	one, other := fabric.New(), fabric.New()
	send(t, one, letter(1, 0, 32, false, "a"))
	send(t, one, letter(2, 0, 32, false, "b"))
	holdsNone(t, other)
	send(t, other, letter(1, 48, 16, true, "c"))
	took(t, one, 0, letter(1, 0, 32, false, "a"))
	waits(t, one, letter(2, 0, 32, false, "b"))
	waits(t, other, letter(1, 48, 16, true, "c"))
}

// model is what the chapter says of a fabric.
type model struct {
	list []api.Letter
	last int
}

func (m *model) add(l api.Letter) api.Letter {
	m.last++
	l.Id = m.last
	m.list = append(m.list, l)
	return l
}

func (m *model) take(at int) api.Letter {
	l := m.list[at]
	m.list = slices.Delete(m.list, at, at+1)
	return l
}

func (m *model) between(from, to int) []int {
	var ids []int
	for _, l := range m.list {
		if l.From == from && l.To == to {
			ids = append(ids, l.Id)
		}
	}
	return ids
}

// anyNode is a node, or now and then a number that is none.
func anyNode(r *rand.Rand) int {
	if r.IntN(20) == 0 {
		return notNodes[r.IntN(len(notNodes))]
	}
	return nodes[r.IntN(len(nodes))]
}

func anyPick(r *rand.Rand) int {
	if r.IntN(10) == 0 {
		return int(r.Uint64())
	}
	return r.IntN(40) - 20
}

func sendAsTold(t *testing.T, f *fabric.Fabric, m *model, r *rand.Rand) {
	t.Helper()
	l := api.Letter{From: anyNode(r), To: anyNode(r), Ctl: r.IntN(2) == 0, Bytes: []byte(strconv.Itoa(r.IntN(1000)))}
	switch {
	case !slices.Contains(nodes, l.From) || !slices.Contains(nodes, l.To):
		notSent(t, f, l.From, l.To, api.ErrNode)
	case len(m.list) == api.MaxLetters:
		notSent(t, f, l.From, l.To, api.ErrFull)
	default:
		send(t, f, m.add(l))
	}
}

// pickAsTold holds a Nth, a Take or a Copy against the model.
func pickAsTold(t *testing.T, f *fabric.Fabric, m *model, r *rand.Rand) {
	t.Helper()
	if len(m.list) == 0 {
		holdsNone(t, f)
		return
	}
	n := anyPick(r)
	at := modulo(n, len(m.list))
	switch r.IntN(3) {
	case 0:
		seen(t, f, n, m.list[at])
	case 1:
		took(t, f, n, m.take(at))
	case 2:
		if len(m.list) == api.MaxLetters {
			notCopied(t, f, n, api.ErrFull)
		} else {
			copied(t, f, n, m.add(m.list[at]).Id)
		}
	}
}

func TestAnyOrderOfCalls(t *testing.T) {
	for _, filled := range []int{0, 0, 0, 3, 50, 4090} {
		r := rand.New(rand.NewPCG(8, uint64(filled)))
		m := model{list: counted(filled), last: filled}
		f := holding(t, m.list)
		for round := range 3000 {
			if r.IntN(3) == 0 {
				sendAsTold(t, f, &m, r)
			} else {
				pickAsTold(t, f, &m, r)
			}
			if f.Len() != len(m.list) {
				t.Fatalf("Len() = %d, want %d", f.Len(), len(m.list))
			}
			if len(m.list) < 100 || round%500 == 0 {
				waits(t, f, m.list...)
				from, to := anyNode(r), anyNode(r)
				between(t, f, from, to, m.between(from, to)...)
			}
		}
	}
}

// P8.2

// ledger is what was sent and copied, and which Ids are under way.
type ledger struct {
	made     map[int]api.Letter
	underWay map[int]bool
}

func (k *ledger) note(t *testing.T, id int, l api.Letter) {
	t.Helper()
	if _, known := k.made[id]; known {
		t.Fatalf("the Id %d was given twice", id)
	}
	l.Id = id
	k.made[id], k.underWay[id] = l, true
}

func (k *ledger) strike(t *testing.T, l api.Letter) {
	t.Helper()
	if !k.underWay[l.Id] {
		t.Fatalf("%v was taken, but isn't under way", l)
	}
	if !same(l, k.made[l.Id]) {
		t.Fatalf("%v was taken, %v was sent", l, k.made[l.Id])
	}
	delete(k.underWay, l.Id)
}

func TestEachLetterIsTakenOnceUnchanged(t *testing.T) {
	r := rand.New(rand.NewPCG(8, 2))
	f := fabric.New()
	k := ledger{made: map[int]api.Letter{}, underWay: map[int]bool{}}
	for i := range 20000 {
		switch n := anyPick(r); r.IntN(4) {
		case 0, 1:
			l := letter(0, nodes[r.IntN(len(nodes))], nodes[r.IntN(len(nodes))], r.IntN(2) == 0, "row "+strconv.Itoa(i))
			if id, err := f.Send(l.From, l.To, l.Ctl, l.Bytes); err == nil {
				k.note(t, id, l)
			}
		case 2:
			l, _ := f.Nth(n)
			if id, err := f.Copy(n); err == nil {
				k.note(t, id, k.made[l.Id])
			}
		case 3:
			if l, err := f.Take(n); err == nil {
				k.strike(t, l)
			}
		}
	}
	for l, err := f.Take(1); err == nil; l, err = f.Take(1) {
		k.strike(t, l)
	}
	if len(k.underWay) != 0 || len(k.made) < 5000 {
		t.Errorf("of %d letters %d were not taken", len(k.made), len(k.underWay))
	}
}

func TestEqualLettersAreEachTaken(t *testing.T) {
	f := fabric.New()
	for id := 1; id <= 4; id++ {
		send(t, f, letter(id, 0, 32, true, "a"))
	}
	for _, want := range []struct{ n, id int }{{1, 2}, {-1, 4}, {0, 1}, {5, 3}} {
		took(t, f, want.n, letter(want.id, 0, 32, true, "a"))
	}
	holdsNone(t, f)
}

func TestACopyOutlivesItsLetter(t *testing.T) {
	f := fabric.New()
	send(t, f, letter(1, 0, 32, true, "a"))
	copied(t, f, 0, 2)
	took(t, f, 0, letter(1, 0, 32, true, "a"))
	copied(t, f, 0, 3)
	took(t, f, 0, letter(2, 0, 32, true, "a"))
	took(t, f, 0, letter(3, 0, 32, true, "a"))
	holdsNone(t, f)
}

// Every call ends, however great the letter is that is copied thousands of times.
func TestCopiesOfAGreatLetterFindRoom(t *testing.T) {
	f := fabric.New()
	row := make([]byte, 1<<18)
	if _, err := f.Send(0, 32, false, row); err != nil {
		t.Fatal(err)
	}
	var before, behind runtime.MemStats
	runtime.ReadMemStats(&before)
	for id := 2; id <= api.MaxLetters; id++ {
		copied(t, f, 0, id)
	}
	runtime.ReadMemStats(&behind)
	if made := behind.TotalAlloc - before.TotalAlloc; made > 1<<24 {
		t.Errorf("%d bytes of memory for %d copies of one letter of %d bytes", made, api.MaxLetters-1, len(row))
	}
	seen(t, f, -1, api.Letter{Id: api.MaxLetters, From: 0, To: 32, Bytes: row})
}

// P8.3

// spoil changes all bytes of a row, and of its spare room.
func spoil(row []byte) {
	row = row[:cap(row)]
	for i := range row {
		row[i] ^= 0xff
	}
}

func TestWhatIsHandedInStays(t *testing.T) {
	for _, size := range []int{0, 1, 4, 8} {
		row := []byte("12345678")[:size]
		was := bytes.Clone(row[:cap(row)])
		f := fabric.New()
		send(t, f, api.Letter{Id: 1, From: 0, To: 32, Bytes: row})
		copied(t, f, 0, 2)
		for _, l := range f.Waiting() {
			spoil(l.Bytes)
		}
		for range 2 {
			l, _ := f.Nth(0)
			spoil(l.Bytes)
			l, _ = f.Take(0)
			spoil(l.Bytes)
			_ = append(l.Bytes, "behind"...)
		}
		if !bytes.Equal(row[:cap(row)], was) {
			t.Errorf("what was handed in, %q, became %q", was, row[:cap(row)])
		}
	}
}

func TestWhatIsHandedInIsntKept(t *testing.T) {
	f := fabric.New()
	row := []byte("same and more")[:4]
	send(t, f, api.Letter{Id: 1, From: 0, To: 32, Bytes: row})
	send(t, f, api.Letter{Id: 2, From: 0, To: 32, Bytes: row})
	copied(t, f, 0, 3)
	spoil(row)
	want := []api.Letter{letter(1, 0, 32, false, "same"), letter(2, 0, 32, false, "same"), letter(3, 0, 32, false, "same")}
	waits(t, f, want...)
	for _, l := range want {
		seen(t, f, 0, l)
		took(t, f, 0, l)
	}
}

func TestAnswersAreNewMemory(t *testing.T) {
	want := []api.Letter{letter(1, 0, 32, true, "same"), letter(2, 0, 32, true, "same"), letter(3, 0, 32, true, "same")}
	f := holding(t, want[:1])
	copied(t, f, 0, 2)
	copied(t, f, 1, 3)

	list := f.Waiting()
	for i := range list {
		if !same(list[i], want[i]) {
			t.Errorf("letter %d became %v: letters of one answer share memory", i, list[i])
		}
		spoil(list[i].Bytes)
		list[i] = api.Letter{}
	}
	clear(list[:cap(list)])
	waits(t, f, want...)

	ids := f.Between(0, 32)
	clear(ids[:cap(ids)])
	between(t, f, 0, 32, 1, 2, 3)

	for n := range want {
		l, _ := f.Nth(n)
		spoil(l.Bytes)
		waits(t, f, want...)
	}
	for len(want) > 0 {
		l, _ := f.Take(0)
		spoil(l.Bytes)
		want = want[1:]
		waits(t, f, want...)
	}
}

func TestAnswersOutliveWhatIsDoneThen(t *testing.T) {
	f := holding(t, counted(4))
	list, ids := f.Waiting(), f.Between(0, 0)
	l, _ := f.Nth(2)
	taken, _ := f.Take(2)
	for range 4 {
		copied(t, f, 0, f.Len()+2)
	}
	for range 6 {
		if _, err := f.Take(0); err != nil {
			t.Fatal(err)
		}
	}
	want := counted(4)
	if !slices.EqualFunc(list, want, same) || !slices.Equal(ids, []int{1}) || !same(l, want[2]) || !same(taken, want[2]) {
		t.Errorf("answers became %v, %v, %v, %v", list, ids, l, taken)
	}
}
