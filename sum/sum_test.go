package sum_test

import (
	"bytes"
	"hash/crc32"
	"math/rand/v2"
	"slices"
	"testing"

	"towpath/sum"
)

// folded is what carrying makes of a total: the number from 1 to 65535 that differs from it by some 65535s; 0 of 0 alone.
func folded(total uint64) uint16 {
	if total == 0 {
		return 0
	}
	return uint16((total-1)%65535 + 1)
}

// sumOf is the sum as the chapter tells it, of one row.
func sumOf(row []byte) uint16 {
	total := uint64(0)
	for i, b := range row {
		if i%2 == 0 {
			total += 256 * uint64(b)
		} else {
			total += uint64(b)
		}
	}
	return 65535 - folded(total)
}

// changeOf is the change as the chapter tells it, of one pair.
func changeOf(c, was, is uint16) uint16 {
	return 65535 - folded(uint64(65535-c)+uint64(65535-was)+uint64(is))
}

func numbers() *rand.Rand {
	return rand.New(rand.NewPCG(2, 2))
}

func someRow(r *rand.Rand, length int) []byte {
	row := make([]byte, length)
	for i := range row {
		row[i] = byte(r.Uint32())
	}
	return row
}

// someRows are rows of all short lengths and of some long ones, of all kinds of bytes.
func someRows() [][]byte {
	r := numbers()
	rows := [][]byte{nil, {}}
	for length := 1; length <= 70; length++ {
		rows = append(rows, make([]byte, length), bytes.Repeat([]byte{0xff}, length), someRow(r, length), someRow(r, length))
	}
	for _, length := range []int{1499, 1500, 65535, 65536} {
		rows = append(rows, bytes.Repeat([]byte{0xff}, length), someRow(r, length))
	}
	return rows
}

func putWord(row []byte, place int, word uint16) {
	row[2*place], row[2*place+1] = byte(word>>8), byte(word)
}

func wordAt(row []byte, place int) uint16 {
	return uint16(row[2*place])<<8 | uint16(row[2*place+1])
}

// P2.1

func TestSum(t *testing.T) {
	for _, c := range []struct {
		row  []byte
		want uint16
	}{
		{nil, 0xffff},
		{[]byte{}, 0xffff},
		{[]byte{0}, 0xffff},
		{[]byte{0, 0, 0}, 0xffff},
		{[]byte{1}, 0xfeff},
		{[]byte{0, 1}, 0xfffe},
		{[]byte{1, 2, 3}, 0xfbfd},
		{[]byte{0xff}, 0x00ff},
		{[]byte{0xff, 0xff}, 0},
		{[]byte{0xff, 0xff, 0xff, 0xff}, 0},
		{[]byte{0xff, 0xff, 0, 1}, 0xfffe},
		{[]byte{0xff, 0xfe, 0, 1}, 0},
		{[]byte{0x80, 0, 0x80, 0}, 0xfffe},
		{[]byte{0, 1, 0xf2, 3, 0xf4, 0xf5, 0xf6, 0xf7}, 0x220d},
	} {
		if got := sum.Sum(c.row); got != c.want {
			t.Errorf("Sum(%x) = %04x, want %04x", c.row, got, c.want)
		}
	}
	if got := sum.Sum(); got != 0xffff {
		t.Errorf("Sum() = %04x, want ffff", got)
	}
	for _, row := range someRows() {
		if got, want := sum.Sum(row), sumOf(row); got != want {
			t.Errorf("Sum of %d bytes %.40x = %04x, want %04x", len(row), row, got, want)
		}
	}
}

// A total of 32 bits wouldn't hold this row's words.
func TestSumOfALongRow(t *testing.T) {
	row := bytes.Repeat([]byte{0xff, 0xff}, 70_000)
	if got := sum.Sum(row, []byte{0x12, 0x34}); got != 0xedcb {
		t.Errorf("Sum = %04x, want edcb", got)
	}
	mixed := someRow(numbers(), 1<<20+1)
	if got, want := sum.Sum(mixed), sumOf(mixed); got != want {
		t.Errorf("Sum = %04x, want %04x", got, want)
	}
}

func TestUpdate(t *testing.T) {
	edges := []uint16{0, 1, 2, 0x00ff, 0x0100, 0x3285, 0x5555, 0x7fff, 0x8000, 0xaaaa, 0xdd2f, 0xff00, 0xfffd, 0xfffe, 0xffff}
	for _, c := range edges {
		for _, was := range edges {
			for _, is := range edges {
				if got, want := sum.Update(c, [2]uint16{was, is}), changeOf(c, was, is); got != want {
					t.Errorf("Update(%04x, {%04x, %04x}) = %04x, want %04x", c, was, is, got, want)
				}
			}
		}
	}
	r := numbers()
	for range 100_000 {
		c, was, is := uint16(r.Uint32()), uint16(r.Uint32()), uint16(r.Uint32())
		if got, want := sum.Update(c, [2]uint16{was, is}), changeOf(c, was, is); got != want {
			t.Fatalf("Update(%04x, {%04x, %04x}) = %04x, want %04x", c, was, is, got, want)
		}
	}
}

func TestUpdateByNumbers(t *testing.T) {
	for _, c := range []struct {
		c, was, is, want uint16
	}{
		{0xdd2f, 0x5555, 0x3285, 0x0000},
		{0xffff, 0, 0, 0x0000},
		{0x0000, 0, 0, 0x0000},
		{0x1234, 0, 0, 0x1234},
		{0xffff, 0xffff, 0, 0xffff},
		{0xffff, 0xffff, 0xffff, 0x0000},
		{0x0000, 0xffff, 0xffff, 0x0000},
		{0xffff, 0, 1, 0xfffe},
		{0xfffe, 1, 0, 0x0000},
	} {
		if got := sum.Update(c.c, [2]uint16{c.was, c.is}); got != c.want {
			t.Errorf("Update(%04x, {%04x, %04x}) = %04x, want %04x", c.c, c.was, c.is, got, c.want)
		}
	}
}

func TestUpdateByNoPairIsTheSum(t *testing.T) {
	for _, c := range []uint16{0, 1, 0x1234, 0xfffe, 0xffff} {
		if got := sum.Update(c); got != c {
			t.Errorf("Update(%04x) = %04x", c, got)
		}
		if got := sum.Update(c, [][2]uint16{}...); got != c {
			t.Errorf("Update(%04x) by an empty list = %04x", c, got)
		}
	}
}

func TestUpdateByPairsOneAfterTheOther(t *testing.T) {
	r := numbers()
	for count := range 50 {
		c := uint16(r.Uint32())
		want := c
		var pairs [][2]uint16
		for range count {
			pair := [2]uint16{uint16(r.Uint32()), uint16(r.Uint32())}
			pairs = append(pairs, pair)
			want = changeOf(want, pair[0], pair[1])
		}
		if got := sum.Update(c, pairs...); got != want {
			t.Errorf("Update(%04x, %04x) = %04x, want %04x", c, pairs, got, want)
		}
	}
}

func TestGood(t *testing.T) {
	for _, c := range []struct {
		row  []byte
		want bool
	}{
		{nil, false},
		{[]byte{0}, false},
		{[]byte{0, 0, 0, 0}, false},
		{[]byte{0xff}, false},
		{[]byte{0xff, 0xff}, true},
		{[]byte{0xff, 0xff, 0xff, 0xff}, true},
		{[]byte{0xff, 0xff, 0}, true},
		{[]byte{0xff, 0xfe}, false},
		{[]byte{0xff, 0xfe, 0, 1}, true},
		{[]byte{0, 1, 0xf2, 3, 0xf4, 0xf5, 0xf6, 0xf7}, false},
		{[]byte{0, 1, 0xf2, 3, 0xf4, 0xf5, 0xf6, 0xf7, 0x22, 0x0d}, true},
		{[]byte{0, 1, 0xf2, 3, 0xf4, 0xf5, 0xf6, 0xf7, 0x22, 0x0e}, false},
		{[]byte{0, 1, 0xf2, 3, 0xf4, 0xf5, 0xf6, 0xf7, 0x0d, 0x22}, false},
	} {
		if got := sum.Good(c.row); got != c.want {
			t.Errorf("Good(%x) = %v", c.row, got)
		}
	}
	if sum.Good() {
		t.Error("Good() = true")
	}
	for _, row := range someRows() {
		if got, want := sum.Good(row), sumOf(row) == 0; got != want {
			t.Errorf("Good of %d bytes %.40x = %v", len(row), row, got)
		}
	}
}

func TestCheck(t *testing.T) {
	for text, want := range map[string]uint32{
		"":                 0x00000000,
		"\x00":             0xd202ef8d,
		"\x00\x00\x00\x00": 0x2144df1c,
		"\xff\xff\xff\xff": 0xffffffff,
		"a":                0xe8b7be43,
		"123456789":        0xcbf43926,
		"The quick brown fox jumps over the lazy dog": 0x414fa339,
	} {
		if got := sum.Check([]byte(text)); got != want {
			t.Errorf("Check(%q) = %08x, want %08x", text, got, want)
		}
	}
	if got := sum.Check(); got != 0 {
		t.Errorf("Check() = %08x, want 0", got)
	}
	for b := range 256 {
		if got, want := sum.Check([]byte{byte(b)}), crc32.ChecksumIEEE([]byte{byte(b)}); got != want {
			t.Errorf("Check(%02x) = %08x, want %08x", b, got, want)
		}
	}
	for _, row := range someRows() {
		if got, want := sum.Check(row), crc32.ChecksumIEEE(row); got != want {
			t.Errorf("Check of %d bytes %.40x = %08x, want %08x", len(row), row, got, want)
		}
	}
}

// P2.2

func TestARowWithItsOwnSumIsGood(t *testing.T) {
	r := numbers()
	for _, row := range someRows() {
		if len(row) == 0 || len(row)%2 != 0 {
			continue
		}
		place := r.IntN(len(row) / 2)
		row = slices.Clone(row)
		putWord(row, place, 0)
		putWord(row, place, sum.Sum(row))
		if !sum.Good(row) {
			t.Errorf("%d bytes %.40x with the own sum at word %d aren't good", len(row), row, place)
		}
		row[r.IntN(len(row))] ^= 1 << r.IntN(8)
		if sum.Good(row) {
			t.Errorf("%d bytes %.40x with one bit turned are good", len(row), row)
		}
	}
}

func TestAChangedWordKeepsARowGood(t *testing.T) {
	r := numbers()
	edges := []uint16{0, 1, 0x00ff, 0x0100, 0x7fff, 0x8000, 0xfffe, 0xffff}
	word := func() uint16 {
		if r.IntN(2) == 0 {
			return edges[r.IntN(len(edges))]
		}
		return uint16(r.Uint32())
	}
	for range 2000 {
		count := 2 + r.IntN(6)
		row := make([]byte, 2*count)
		place := r.IntN(count)
		for i := range count {
			putWord(row, i, word())
		}
		putWord(row, place, 0)
		putWord(row, place, sum.Sum(row))
		for range 20 {
			other := (place + 1 + r.IntN(count-1)) % count
			was, is := wordAt(row, other), word()
			putWord(row, other, is)
			putWord(row, place, sum.Update(wordAt(row, place), [2]uint16{was, is}))
			if sum.Good(row) == othersAreNoughts(row, place) {
				t.Fatalf("%x with the sum at word %d, word %d of %04x now %04x: Good = %v", row, place, other, was, is, sum.Good(row))
			}
			if othersAreNoughts(row, place) {
				putWord(row, place, sum.Sum(make([]byte, len(row))))
			}
		}
	}
}

func othersAreNoughts(row []byte, place int) bool {
	for i := range len(row) / 2 {
		if i != place && wordAt(row, i) != 0 {
			return false
		}
	}
	return true
}

// The one exception: a row that comes to have noughts alone beside its sum.
func TestAChangeToNoughtsAlone(t *testing.T) {
	row := []byte{0, 0, 0x12, 0x34}
	c := sum.Sum(row)
	putWord(row, 0, c)
	putWord(row, 1, 0)
	putWord(row, 0, sum.Update(c, [2]uint16{0x1234, 0}))
	if !bytes.Equal(row, []byte{0, 0, 0, 0}) || sum.Good(row) {
		t.Errorf("%x: Good = %v", row, sum.Good(row))
	}
}

// P2.3

// cuts are the ways to cut a row into three parts; each is handed on with empty parts between.
func cuts(row []byte, each func(parts ...[]byte)) {
	for i := 0; i <= len(row); i++ {
		for j := i; j <= len(row); j++ {
			each(row[:i], row[i:j], row[j:])
			each(nil, row[:i], []byte{}, row[i:j], nil, row[j:], nil)
		}
	}
}

func TestPartsAreOneRow(t *testing.T) {
	rows := [][]byte{nil, {1}, {1, 2}, {1, 2, 3}, {0xff, 0xff, 0xff, 0xff}, {0, 1, 0xf2, 3, 0xf4, 0xf5, 0xf6, 0xf7, 0x22, 0x0d}, []byte("123456789"), someRow(numbers(), 31)}
	for _, row := range rows {
		cuts(row, func(parts ...[]byte) {
			if got, want := sum.Sum(parts...), sumOf(row); got != want {
				t.Errorf("Sum(%x) = %04x, want %04x", parts, got, want)
			}
			if got, want := sum.Good(parts...), sumOf(row) == 0; got != want {
				t.Errorf("Good(%x) = %v", parts, got)
			}
			if got, want := sum.Check(parts...), crc32.ChecksumIEEE(row); got != want {
				t.Errorf("Check(%x) = %08x, want %08x", parts, got, want)
			}
		})
	}
}

func TestPartsOfOneByteEach(t *testing.T) {
	row := someRow(numbers(), 1501)
	parts := slices.Collect(slices.Chunk(row, 1))
	if got, want := sum.Sum(parts...), sumOf(row); got != want {
		t.Errorf("Sum = %04x, want %04x", got, want)
	}
	if got, want := sum.Check(parts...), crc32.ChecksumIEEE(row); got != want {
		t.Errorf("Check = %08x, want %08x", got, want)
	}
	c := sumOf(row)
	parts = append(parts, []byte{0}, []byte{byte(c >> 8)}, []byte{byte(c)})
	if !sum.Good(parts...) {
		t.Error("Good = false of a row and its sum")
	}
}

func TestEmptyParts(t *testing.T) {
	for _, parts := range [][][]byte{nil, {}, {nil}, {{}}, {nil, {}, nil}} {
		if got := sum.Sum(parts...); got != 0xffff {
			t.Errorf("Sum(%#v) = %04x, want ffff", parts, got)
		}
		if sum.Good(parts...) {
			t.Errorf("Good(%#v) = true", parts)
		}
		if got := sum.Check(parts...); got != 0 {
			t.Errorf("Check(%#v) = %08x, want 0", parts, got)
		}
	}
}

// P2.4

func TestWhatIsHandedInStays(t *testing.T) {
	room := []byte("123456789 and spare room")
	parts := [][]byte{room[:3:12], room[3:9], nil}
	pairs := [][2]uint16{{1, 2}, {3, 4}, {5, 6}}
	allParts, allRoom, allPairs := slices.Clone(parts), slices.Clone(room), slices.Clone(pairs)
	sum.Sum(parts[:2]...)
	sum.Good(parts[:2]...)
	sum.Check(parts[:2]...)
	sum.Update(0x1234, pairs[:2]...)
	if !bytes.Equal(room, allRoom) {
		t.Errorf("the bytes are %q", room)
	}
	if !slices.Equal(pairs, allPairs) {
		t.Errorf("the pairs are %v", pairs)
	}
	for i, part := range parts {
		if len(part) != len(allParts[i]) || cap(part) != cap(allParts[i]) {
			t.Errorf("part %d has another length or room", i)
		}
	}
}

func TestNothingIsKept(t *testing.T) {
	row := []byte("123456789")
	pairs := [][2]uint16{{1, 2}, {3, 4}}
	sum.Sum(row)
	sum.Check(row)
	sum.Update(0, pairs...)
	copy(row, "abc")
	pairs[0] = [2]uint16{7, 8}
	if got, want := sum.Sum(row), sumOf([]byte("abc456789")); got != want {
		t.Errorf("Sum = %04x, want %04x", got, want)
	}
	if got, want := sum.Check(row), crc32.ChecksumIEEE([]byte("abc456789")); got != want {
		t.Errorf("Check = %08x, want %08x", got, want)
	}
	if got, want := sum.Update(0, pairs...), changeOf(changeOf(0, 7, 8), 3, 4); got != want {
		t.Errorf("Update = %04x, want %04x", got, want)
	}
}
