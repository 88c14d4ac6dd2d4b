package queue_test

import (
	"bytes"
	"errors"
	"math"
	"math/rand/v2"
	"slices"
	"strconv"
	"testing"

	"towpath/api"
	"towpath/queue"
)

var (
	sizes    = []int{0, 1, 2, 3, 4, 7, 31, 32, 255, 256, 4095, 4096}
	few      = []int{0, 1, 2, 3, 5, 9}
	notSizes = []int{-1, -2, 4097, 4098, 8192, -4096, 1 << 16, 1 << 32, math.MaxInt32, math.MinInt32, math.MaxInt, math.MinInt}
)

func newQueue(t *testing.T, size int) *queue.Queue {
	t.Helper()
	q, err := queue.New(size)
	if q == nil || err != nil {
		t.Fatalf("New(%d) = %v, %v", size, q, err)
	}
	return q
}

func newLanes(t *testing.T, size int) *queue.Lanes {
	t.Helper()
	l, err := queue.NewLanes(size)
	if l == nil || err != nil {
		t.Fatalf("NewLanes(%d) = %v, %v", size, l, err)
	}
	return l
}

// texts are rows of these texts.
func texts(list ...string) [][]byte {
	var rows [][]byte
	for _, text := range list {
		rows = append(rows, []byte(text))
	}
	return rows
}

// counted are so many rows, each another one, counted from a number on.
func counted(from, count int) [][]byte {
	var rows [][]byte
	for i := range count {
		rows = append(rows, []byte(strconv.Itoa(from+i)))
	}
	return rows
}

func alike(a, b [][]byte) bool {
	return slices.EqualFunc(a, b, bytes.Equal)
}

// copyOf is a list of rows that shares no memory with it.
func copyOf(rows [][]byte) [][]byte {
	var list [][]byte
	for _, row := range rows {
		list = append(list, bytes.Clone(row))
	}
	return list
}

// holds asks for how many rows there are, and for how many there is room.
func holds(t *testing.T, q *queue.Queue, count, room int) {
	t.Helper()
	if q.Len() != count || q.Room() != room {
		t.Fatalf("Len, Room = %d, %d, want %d, %d", q.Len(), q.Room(), count, room)
	}
}

func put(t *testing.T, q *queue.Queue, rows [][]byte, want int) {
	t.Helper()
	if n := q.Put(rows...); n != want {
		t.Fatalf("Put(%.60q) = %d, want %d", rows, n, want)
	}
}

func got(t *testing.T, q *queue.Queue, want string) {
	t.Helper()
	if row, ok := q.Get(); string(row) != want || !ok {
		t.Fatalf("Get() = %q, %v, want %q", row, ok, want)
	}
}

func gotNone(t *testing.T, q *queue.Queue) {
	t.Helper()
	if row, ok := q.Get(); len(row) != 0 || ok {
		t.Fatalf("Get() = %q, %v, want nothing", row, ok)
	}
}

func drained(t *testing.T, q *queue.Queue, want [][]byte) {
	t.Helper()
	if rows := q.Drain(); !alike(rows, want) {
		t.Fatalf("Drain() = %.60q, want %.60q", rows, want)
	}
}

func gotLane(t *testing.T, l *queue.Lanes, want string, wantUrgent bool) {
	t.Helper()
	if row, urgent, ok := l.Get(); string(row) != want || urgent != wantUrgent || !ok {
		t.Fatalf("Get() = %q, %v, %v, want %q, %v", row, urgent, ok, want, wantUrgent)
	}
}

func gotNoLane(t *testing.T, l *queue.Lanes) {
	t.Helper()
	if row, urgent, ok := l.Get(); len(row) != 0 || urgent || ok {
		t.Fatalf("Get() = %q, %v, %v, want nothing", row, urgent, ok)
	}
}

func took(t *testing.T, l *queue.Lanes, most int, want [][]byte) {
	t.Helper()
	if rows := l.Take(most); !alike(rows, want) {
		t.Fatalf("Take(%d) = %.60q, want %.60q", most, rows, want)
	}
}

func plain(t *testing.T, l *queue.Lanes, rows [][]byte, want int) {
	t.Helper()
	if n := l.Plain(rows...); n != want {
		t.Fatalf("Plain(%.60q) = %d, want %d", rows, n, want)
	}
}

func urgent(t *testing.T, l *queue.Lanes, rows [][]byte, want int) {
	t.Helper()
	if n := l.Urgent(rows...); n != want {
		t.Fatalf("Urgent(%.60q) = %d, want %d", rows, n, want)
	}
}

// P7.1

func TestExample(t *testing.T) {
	q := newQueue(t, 2)
	put(t, q, texts("a", "b", "c"), 2)
	got(t, q, "a")
	put(t, q, texts("d"), 1)
	drained(t, q, texts("b", "d"))

	l := newLanes(t, 2)
	plain(t, l, texts("p", "q"), 2)
	urgent(t, l, texts("u"), 1)
	took(t, l, 2, texts("u", "p"))
}

func TestNewIsEmpty(t *testing.T) {
	for _, size := range sizes {
		q := newQueue(t, size)
		holds(t, q, 0, size)
		gotNone(t, q)
		drained(t, q, nil)
		put(t, q, nil, 0)
		holds(t, q, 0, size)

		l := newLanes(t, size)
		if l.Len() != 0 {
			t.Errorf("Len of new lanes = %d", l.Len())
		}
		gotNoLane(t, l)
		took(t, l, math.MaxInt, nil)
	}
}

func TestNewRefusesSizes(t *testing.T) {
	for _, size := range notSizes {
		if q, err := queue.New(size); q != nil || !errors.Is(err, api.ErrRange) {
			t.Errorf("New(%d) = %v, %v, want nothing and %v", size, q, err, api.ErrRange)
		}
		if l, err := queue.NewLanes(size); l != nil || !errors.Is(err, api.ErrRange) {
			t.Errorf("NewLanes(%d) = %v, %v, want nothing and %v", size, l, err, api.ErrRange)
		}
	}
}

func TestPutTakesTheFirstOnes(t *testing.T) {
	for _, size := range sizes {
		for _, before := range []int{0, 1, 2, size / 2, size - 1, size} {
			for _, more := range []int{0, 1, 2, size - before - 1, size - before, size - before + 1, size + 5} {
				if before < 0 || before > size || more < 0 {
					continue
				}
				q := newQueue(t, size)
				put(t, q, counted(0, before), before)
				fit := min(more, size-before)
				put(t, q, counted(before, more), fit)
				holds(t, q, before+fit, size-before-fit)
				drained(t, q, counted(0, before+fit))
				holds(t, q, 0, size)
			}
		}
	}
}

func TestFullRefusesUntilARowIsTaken(t *testing.T) {
	q := newQueue(t, 3)
	put(t, q, texts("a", "b", "c"), 3)
	put(t, q, texts("no"), 0)
	put(t, q, texts("no", "no", "no", "no"), 0)
	holds(t, q, 3, 0)
	got(t, q, "a")
	holds(t, q, 2, 1)
	put(t, q, texts("d", "no"), 1)
	put(t, q, texts("no"), 0)
	drained(t, q, texts("b", "c", "d"))
	gotNone(t, q)
	put(t, q, texts("e"), 1)
	got(t, q, "e")
	gotNone(t, q)
	drained(t, q, nil)
}

// A row without bytes is a row, too: a true tells it from none.
func TestRowsWithoutBytes(t *testing.T) {
	q := newQueue(t, 4)
	put(t, q, [][]byte{nil, {}, []byte("a"), nil, nil}, 4)
	got(t, q, "")
	got(t, q, "")
	holds(t, q, 2, 2)
	drained(t, q, [][]byte{[]byte("a"), nil})

	l := newLanes(t, 2)
	plain(t, l, [][]byte{nil, {}, nil}, 2)
	urgent(t, l, [][]byte{{}}, 1)
	gotLane(t, l, "", true)
	gotLane(t, l, "", false)
	took(t, l, 5, [][]byte{nil})
	gotNoLane(t, l)
}

func TestRowsOfAllLengths(t *testing.T) {
	q := newQueue(t, 8)
	var rows [][]byte
	for _, size := range []int{1, 20, 1499, 1500, 1501, 65536, 1 << 20} {
		row := make([]byte, size)
		for i := range row {
			row[i] = byte(i%251 + size)
		}
		rows = append(rows, row)
	}
	put(t, q, rows, len(rows))
	drained(t, q, rows)
}

func TestTakeTakesAtMostMost(t *testing.T) {
	for _, c := range []struct{ most, count int }{
		{math.MinInt, 0}, {-2, 0}, {-1, 0}, {0, 0}, {1, 1}, {2, 2}, {3, 3}, {4, 4}, {5, 5}, {6, 5}, {4096, 5}, {math.MaxInt, 5},
	} {
		l := newLanes(t, 3)
		plain(t, l, texts("p", "q", "r"), 3)
		urgent(t, l, texts("u", "v"), 2)
		all := texts("u", "v", "p", "q", "r")
		took(t, l, c.most, all[:c.count])
		if l.Len() != 5-c.count {
			t.Errorf("Len behind Take(%d) = %d", c.most, l.Len())
		}
		took(t, l, 9, all[c.count:])
	}
}

func TestEachLaneHasItsOwnRoom(t *testing.T) {
	for _, size := range sizes {
		l := newLanes(t, size)
		plain(t, l, counted(0, size+1), size)
		plain(t, l, counted(0, 1), 0)
		urgent(t, l, counted(size, size+2), size)
		urgent(t, l, counted(0, 1), 0)
		if l.Len() != 2*size {
			t.Fatalf("Len of full lanes of size %d = %d", size, l.Len())
		}
		took(t, l, math.MaxInt, append(counted(size, size), counted(0, size)...))
		if l.Len() != 0 {
			t.Fatalf("Len of emptied lanes = %d", l.Len())
		}
		urgent(t, l, counted(0, size+1), size)
		plain(t, l, counted(size, size+1), size)
		took(t, l, 2*size, counted(0, 2*size))
		gotNoLane(t, l)
	}
}

func TestNilIsOfSizeZero(t *testing.T) {
	for _, q := range []*queue.Queue{nil, newQueue(t, 0)} {
		put(t, q, nil, 0)
		put(t, q, texts("a"), 0)
		put(t, q, texts("a", "b", ""), 0)
		holds(t, q, 0, 0)
		gotNone(t, q)
		drained(t, q, nil)
	}
	for _, l := range []*queue.Lanes{nil, newLanes(t, 0)} {
		plain(t, l, texts("p", ""), 0)
		urgent(t, l, texts("u", ""), 0)
		plain(t, l, nil, 0)
		urgent(t, l, nil, 0)
		if l.Len() != 0 {
			t.Errorf("Len = %d", l.Len())
		}
		gotNoLane(t, l)
		for _, most := range []int{math.MinInt, -1, 0, 1, math.MaxInt} {
			took(t, l, most, nil)
		}
	}
}

// P7.2

// model is what the chapter says of a queue.
type model struct {
	size int
	rows [][]byte
}

func (m *model) put(rows [][]byte) int {
	count := min(len(rows), m.size-len(m.rows))
	m.rows = append(m.rows, rows[:count]...)
	return count
}

// take takes the first rows.
func (m *model) take(count int) [][]byte {
	rows := m.rows[:count]
	m.rows = m.rows[count:]
	return rows
}

func TestAnyOrderOfCalls(t *testing.T) {
	r := rand.New(rand.NewPCG(7, 1))
	for _, size := range append(slices.Clone(few), 64) {
		q, m, next := newQueue(t, size), model{size: size}, 0
		for range 4000 {
			switch r.IntN(9) {
			case 0, 1, 2, 3:
				rows := counted(next, r.IntN(4))
				next += len(rows)
				put(t, q, rows, m.put(rows))
			case 4, 5, 6, 7:
				if len(m.rows) == 0 {
					gotNone(t, q)
				} else {
					got(t, q, string(m.take(1)[0]))
				}
			case 8:
				if r.IntN(8) == 0 {
					drained(t, q, m.take(len(m.rows)))
				}
			}
			holds(t, q, len(m.rows), size-len(m.rows))
		}
	}
}

func TestEachRowIsTakenOnceInOrder(t *testing.T) {
	for _, size := range sizes {
		q := newQueue(t, size)
		var wanted, taken [][]byte
		for round := range 12 {
			rows := counted(1000000*round, size/2+1)
			wanted = append(wanted, rows[:q.Put(rows...)]...)
			if q.Len() > size {
				t.Fatalf("%d rows in a queue of size %d", q.Len(), size)
			}
			for range size / 3 {
				if row, ok := q.Get(); ok {
					taken = append(taken, row)
				}
			}
		}
		taken = append(taken, q.Drain()...)
		if !alike(taken, wanted) {
			t.Errorf("of size %d: %.60q was put, %.60q was taken", size, wanted, taken)
		}
		gotNone(t, q)
	}
}

func TestEqualRowsAreEachTaken(t *testing.T) {
	q := newQueue(t, 5)
	a := []byte("a")
	put(t, q, [][]byte{a, a, []byte("b"), a}, 4)
	put(t, q, [][]byte{a}, 1)
	drained(t, q, texts("a", "a", "b", "a", "a"))
}

func TestQueuesAreApart(t *testing.T) {
	one, other := newQueue(t, 2), newQueue(t, 2)
	put(t, one, texts("a", "b"), 2)
	holds(t, other, 0, 2)
	put(t, other, texts("c"), 1)
	drained(t, one, texts("a", "b"))
	drained(t, other, texts("c"))

	first, second := newLanes(t, 1), newLanes(t, 1)
	urgent(t, first, texts("u"), 1)
	plain(t, second, texts("p"), 1)
	took(t, first, 9, texts("u"))
	took(t, second, 9, texts("p"))
}

// P7.3

func TestUrgentRowsGoAhead(t *testing.T) {
	l := newLanes(t, 4)
	plain(t, l, texts("p", "q"), 2)
	urgent(t, l, texts("u", "v"), 2)
	gotLane(t, l, "u", true)
	plain(t, l, texts("r"), 1)
	gotLane(t, l, "v", true)
	gotLane(t, l, "p", false)
	urgent(t, l, texts("w"), 1)
	gotLane(t, l, "w", true)
	gotLane(t, l, "q", false)
	gotLane(t, l, "r", false)
	gotNoLane(t, l)
}

// getAsTold holds a Get of lanes against their models.
func getAsTold(t *testing.T, l *queue.Lanes, urgents, plains *model) {
	t.Helper()
	switch {
	case len(urgents.rows) > 0:
		gotLane(t, l, string(urgents.take(1)[0]), true)
	case len(plains.rows) > 0:
		gotLane(t, l, string(plains.take(1)[0]), false)
	default:
		gotNoLane(t, l)
	}
}

// takeAsTold holds a Take of lanes against their models.
func takeAsTold(t *testing.T, l *queue.Lanes, most int, urgents, plains *model) {
	t.Helper()
	rows := slices.Clone(urgents.take(min(max(most, 0), len(urgents.rows))))
	rows = append(rows, plains.take(min(max(most, 0)-len(rows), len(plains.rows)))...)
	took(t, l, most, rows)
}

func TestAnyOrderOfCallsOfLanes(t *testing.T) {
	r := rand.New(rand.NewPCG(7, 3))
	for _, size := range few {
		l, urgents, plains, next := newLanes(t, size), model{size: size}, model{size: size}, 0
		for range 6000 {
			rows := counted(next, r.IntN(4))
			switch r.IntN(8) {
			case 0, 1:
				next += len(rows)
				urgent(t, l, rows, urgents.put(rows))
			case 2, 3:
				next += len(rows)
				plain(t, l, rows, plains.put(rows))
			case 4, 5, 6:
				getAsTold(t, l, &urgents, &plains)
			case 7:
				takeAsTold(t, l, r.IntN(2*size+6)-3, &urgents, &plains)
			}
			if l.Len() != len(urgents.rows)+len(plains.rows) {
				t.Fatalf("Len = %d, want %d and %d", l.Len(), len(urgents.rows), len(plains.rows))
			}
		}
	}
}

// P7.4

// roomy are rows with spare room, in a list with spare room.
func roomy() [][]byte {
	list := texts("one and more", "two and more", "", "four and more", "spare row")
	for i, row := range list[:4] {
		list[i] = row[:min(3, len(row))]
	}
	return list[:4]
}

// whole are all bytes and rows of a list, its spare room too.
func whole(list [][]byte) [][]byte {
	var rows [][]byte
	for _, row := range list[:cap(list)] {
		rows = append(rows, row[:cap(row)])
	}
	return rows
}

// putters are the ways to put rows, each with the way to take them all.
func putters(t *testing.T, size int) map[string]struct {
	put  func(...[]byte) int
	take func() [][]byte
} {
	q, one, other := newQueue(t, size), newLanes(t, size), newLanes(t, size)
	return map[string]struct {
		put  func(...[]byte) int
		take func() [][]byte
	}{
		"Put":    {q.Put, q.Drain},
		"Urgent": {one.Urgent, func() [][]byte { return one.Take(size) }},
		"Plain":  {other.Plain, func() [][]byte { return other.Take(size) }},
	}
}

func TestWhatIsHandedInStays(t *testing.T) {
	for _, size := range []int{0, 2, 4, 9} {
		for name, way := range putters(t, size) {
			list := roomy()
			was := copyOf(whole(list))
			way.put(list...)
			for _, row := range way.take() {
				for i := range row {
					row[i] ^= 0xff
				}
				_ = append(row, "behind"...)
			}
			if !alike(whole(list), was) {
				t.Errorf("%s: what was handed in, %q, became %q", name, was, whole(list))
			}
		}
	}
}

func TestWhatIsHandedInIsntKept(t *testing.T) {
	for name, way := range putters(t, 9) {
		list := roomy()
		want := copyOf(list)
		way.put(list...)
		for _, row := range list {
			clear(row[:cap(row)])
		}
		clear(list)
		if rows := way.take(); !alike(rows, want) {
			t.Errorf("%s: %q was put, and changed then; %q was taken", name, want, rows)
		}
	}
}

func TestGetIsNewMemory(t *testing.T) {
	q, l := newQueue(t, 3), newLanes(t, 3)
	a := []byte("same")
	put(t, q, [][]byte{a, a, a}, 3)
	plain(t, l, [][]byte{a, a}, 2)
	urgent(t, l, [][]byte{a}, 1)
	for range 3 {
		row, _ := q.Get()
		other, _, _ := l.Get()
		if string(row) != "same" || string(other) != "same" {
			t.Errorf("Get = %q, %q: what was put shares memory with an answer", row, other)
		}
		clear(row[:cap(row)])
		clear(other[:cap(other)])
	}
	if string(a) != "same" {
		t.Errorf("what was handed in became %q", a)
	}
}

func TestListsOfRowsAreNewMemory(t *testing.T) {
	for name, way := range putters(t, 3) {
		a := []byte("same")
		way.put(a, a, a)
		rows := way.take()
		for i, row := range rows {
			if string(row) != "same" {
				t.Errorf("%s: row %d became %q: rows of one answer share memory", name, i, row)
			}
			clear(row[:cap(row)])
		}
		way.put(texts("b", "c", "d")...)
		clear(rows[:cap(rows)])
		if again := way.take(); !alike(again, texts("b", "c", "d")) {
			t.Errorf("%s: %q was taken: answers share memory", name, again)
		}
	}
}
