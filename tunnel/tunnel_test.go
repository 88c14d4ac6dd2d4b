package tunnel_test

import (
	"bytes"
	"encoding/binary"
	"encoding/hex"
	"errors"
	"math"
	"math/rand/v2"
	"slices"
	"strings"
	"testing"

	"towpath/api"
	"towpath/packet"
	"towpath/sum"
	"towpath/tunnel"
)

// Packets, and what is wrapped of them, worked out apart from this program: 28 bytes of UDP, a SYN, and UDP with three bytes.
const (
	shortHex = "4500001c 00004000 401128c0 08080808 01010101 13880050 0008d9f4"
	synHex   = "45000028 00074000 400628b8 08080808 01010101 13880050 00000001 00000000 50020200 87f80000"
	oddHex   = "4503001f 01024000 091154b6 0a010001 09090909 0035ffff 000b102b 6f6464"
)

var edgeAddrs = []api.Addr{0, 1, 0xff, 0x100, 0xffff, 0x10000, 0x01020304, 0x0a000020, 0x0a010001, 0x7fffffff, 0x80000000, 0xffff0000, 0xfffffffe, 0xffffffff}

func row(t *testing.T, text string) []byte {
	t.Helper()
	b, err := hex.DecodeString(strings.ReplaceAll(text, " ", ""))
	if err != nil {
		t.Fatal(err)
	}
	return b
}

// sized is a packet of so many bytes, all of its Data different from noughts.
func sized(t *testing.T, proto, size int) []byte {
	t.Helper()
	head := 40
	if proto == api.UDP {
		head = 28
	}
	p := api.Packet{Ttl: 64, Flow: api.Flow{Proto: proto, Src: 0x08080808, SrcPort: 5000, Dst: 0x01010101, DstPort: 80}}
	for i := range size - head {
		p.Data = append(p.Data, byte(i%251+1))
	}
	b, err := packet.Build(p)
	if err != nil || len(b) != size {
		t.Fatalf("a packet of %d bytes: %d, %v", size, len(b), err)
	}
	return b
}

// inners are packets that can be wrapped.
func inners(t *testing.T) [][]byte {
	t.Helper()
	list := [][]byte{row(t, shortHex), row(t, synHex), row(t, oddHex)}
	for _, size := range []int{40, 41, 235, 236, 237, 255, 256, 1479, 1480} {
		list = append(list, sized(t, api.UDP, size), sized(t, api.TCP, size))
	}
	return list
}

// told is what the chapter says of the bytes, laid down at fixed places.
func told(src, dst api.Addr, inner []byte) []byte {
	b := make([]byte, 20, 20+len(inner))
	b[0], b[6], b[8], b[9] = 0x45, 0x40, 0x40, 4
	binary.BigEndian.PutUint16(b[2:], uint16(20+len(inner)))
	binary.BigEndian.PutUint32(b[12:], uint32(src))
	binary.BigEndian.PutUint32(b[16:], uint32(dst))
	all := 0
	for at := 0; at < 20; at += 2 {
		all += int(binary.BigEndian.Uint16(b[at:]))
	}
	for all > math.MaxUint16 {
		all = all>>16 + all&math.MaxUint16
	}
	binary.BigEndian.PutUint16(b[10:], ^uint16(all))
	return append(b, inner...)
}

func wrapped(t *testing.T, src, dst api.Addr, inner []byte) []byte {
	t.Helper()
	b, err := tunnel.Wrap(src, dst, inner)
	if err != nil {
		t.Fatalf("Wrap(%x, %x, %.60x): %v", src, dst, inner, err)
	}
	return b
}

func wrapRefused(t *testing.T, what string, inner []byte, want api.Errno) {
	t.Helper()
	b, err := tunnel.Wrap(1, 2, inner)
	if b != nil || !errors.Is(err, want) {
		t.Errorf("Wrap(%s) = %.60x, %v, want nothing and %v", what, b, err, want)
	}
}

func taken(t *testing.T, b []byte, src, dst api.Addr, inner []byte) {
	t.Helper()
	s, d, in, err := tunnel.Unwrap(b)
	if s != src || d != dst || !bytes.Equal(in, inner) || err != nil {
		t.Errorf("Unwrap(%.60x) = %x, %x, %.60x, %v, want %x, %x, %.60x", b, s, d, in, err, src, dst, inner)
	}
	if !tunnel.Is(b) {
		t.Errorf("Is(%.60x) = false", b)
	}
}

func notTaken(t *testing.T, what string, b []byte) {
	t.Helper()
	s, d, in, err := tunnel.Unwrap(b)
	if s != 0 || d != 0 || in != nil || !errors.Is(err, api.ErrPacket) {
		t.Errorf("Unwrap(%s) = %x, %x, %.60x, %v, want nothing and %v", what, s, d, in, err, api.ErrPacket)
	}
	if tunnel.Is(b) {
		t.Errorf("Is(%s) = true", what)
	}
}

// summed puts the right sum into an outer header.
func summed(b []byte) []byte {
	b[10], b[11] = 0, 0
	binary.BigEndian.PutUint16(b[10:], sum.Sum(b[:20]))
	return b
}

// notPackets are rows of bytes that are no packet's.
func notPackets(t *testing.T) map[string][]byte {
	t.Helper()
	syn, odd := row(t, synHex), row(t, oddHex)
	turned := slices.Clone(syn)
	turned[30] ^= 1
	noSum := slices.Clone(odd)
	noSum[26], noSum[27] = 0, 0
	return map[string][]byte{
		"nil": nil, "no bytes": {}, "a byte": {0x45}, "20 bytes": syn[:20], "39 bytes": syn[:39], "noughts": make([]byte, 60),
		"1480 noughts": make([]byte, 1480), "1481 noughts": make([]byte, 1481), "1501 noughts": make([]byte, 1501), "far too many": make([]byte, 1<<20),
		"a byte behind": append(slices.Clone(syn), 0), "a byte less": odd[:len(odd)-1], "a bit turned": turned, "no sum": noSum,
		"a wrapped one": told(1, 2, syn), "one wrapped twice": told(3, 4, told(1, 2, syn)),
	}
}

// P5.1: Wrap.

func TestWrapByHand(t *testing.T) {
	for _, c := range []struct {
		src, dst   api.Addr
		head, text string
	}{
		{0x0a000020, 0x0a010001, "45000030 00004000 400426a9 0a000020 0a010001", shortHex},
		{0xffffffff, 0, "4500003c 00004000 40043abf ffffffff 00000000", synHex},
		{0x0a000027, 0x0a010701, "45000033 00004000 40041f9f 0a000027 0a010701", oddHex},
		{0x0a000020, 0x0a0126aa, "45000030 00004000 40040000 0a000020 0a0126aa", shortHex},
	} {
		inner, want := row(t, c.text), row(t, c.head+c.text)
		if b := wrapped(t, c.src, c.dst, inner); !bytes.Equal(b, want) {
			t.Errorf("Wrap(%x, %x, %x) =\n%x, want\n%x", c.src, c.dst, inner, b, want)
		}
		taken(t, want, c.src, c.dst, inner)
	}
}

func TestWrapAsTold(t *testing.T) {
	for _, inner := range inners(t) {
		for _, src := range edgeAddrs {
			for _, dst := range edgeAddrs {
				if b := wrapped(t, src, dst, inner); !bytes.Equal(b, told(src, dst, inner)) {
					t.Fatalf("Wrap(%x, %x, %.60x) = %.80x", src, dst, inner, b)
				}
			}
		}
	}
}

func TestWrapRefusesWhatIsNoPacket(t *testing.T) {
	for what, inner := range notPackets(t) {
		wrapRefused(t, what, inner, api.ErrPacket)
	}
}

func TestWrapRefusesTooMany(t *testing.T) {
	for _, proto := range []int{api.UDP, api.TCP} {
		for size := 1470; size <= 1480; size++ {
			if b := wrapped(t, 1, 2, sized(t, proto, size)); len(b) != size+20 {
				t.Errorf("a packet of %d bytes wrapped: %d", size, len(b))
			}
		}
		for size := 1481; size <= api.MaxPacket; size++ {
			wrapRefused(t, "more than 1480 bytes", sized(t, proto, size), api.ErrRange)
		}
	}
}

// P5.1: Unwrap and Is.

func TestUnwrapAsTold(t *testing.T) {
	for _, inner := range inners(t) {
		for _, src := range edgeAddrs {
			for _, dst := range edgeAddrs {
				taken(t, told(src, dst, inner), src, dst, inner)
			}
		}
	}
}

func TestUnwrapRefusesPacketsAndTheirWrongKin(t *testing.T) {
	for what, b := range notPackets(t) {
		if what != "a wrapped one" {
			notTaken(t, what, b)
			notTaken(t, what+", wrapped", told(1, 2, b))
		}
	}
	for size := range 48 {
		notTaken(t, "too few bytes", told(1, 2, row(t, shortHex))[:size])
	}
}

func TestUnwrapRefusesTooMany(t *testing.T) {
	for _, proto := range []int{api.UDP, api.TCP} {
		for size := 1481; size <= api.MaxPacket; size++ {
			notTaken(t, "more than 1480 bytes, wrapped", told(1, 2, sized(t, proto, size)))
		}
	}
}

func TestUnwrapRefusesEachTurnedBit(t *testing.T) {
	for _, text := range []string{shortHex, synHex, oddHex} {
		b := told(0x0a000020, 0x0a010001, row(t, text))
		for bit := range 8 * len(b) {
			c := slices.Clone(b)
			c[bit/8] ^= 0x80 >> (bit % 8)
			notTaken(t, "a bit turned", c)
		}
	}
}

// Each other byte at a fixed place is refused, also where the sum fits it.
func TestUnwrapRefusesOtherHeaders(t *testing.T) {
	b := told(0x0a000020, 0x0a010001, row(t, synHex))
	for at := range 10 {
		for is := range 256 {
			c := slices.Clone(b)
			c[at] = byte(is)
			if b[at] != byte(is) {
				notTaken(t, "another header", summed(c))
			}
		}
	}
	taken(t, summed(slices.Clone(b)), 0x0a000020, 0x0a010001, row(t, synHex))
}

// Where the sum is 0, ffff would be as good: one form alone is taken.
func TestUnwrapRefusesTheOtherZero(t *testing.T) {
	b := told(0x0a000020, 0x0a0126aa, row(t, shortHex))
	if b[10] != 0 || b[11] != 0 {
		t.Fatalf("the sum of %x isn't 0", b[:20])
	}
	b[10], b[11] = 0xff, 0xff
	notTaken(t, "ffff in the place of 0", b)
}

func TestUnwrapRefusesBytesBehind(t *testing.T) {
	for _, inner := range inners(t) {
		b := told(7, 8, inner)
		notTaken(t, "a byte behind", append(slices.Clone(b), 0))
		notTaken(t, "a byte less", b[:len(b)-1])
		c := append(slices.Clone(b), 0)
		binary.BigEndian.PutUint16(c[2:], uint16(len(c)))
		notTaken(t, "a byte behind that is numbered", summed(c))
	}
}

func TestUnwrapTakesNoRandomBytes(t *testing.T) {
	r := rand.New(rand.NewPCG(5, 1))
	for range 2000 {
		b := make([]byte, r.IntN(100))
		for i := range b {
			b[i] = byte(r.Uint32())
		}
		notTaken(t, "random bytes", b)
	}
}

// P5.2

func TestThereAndBack(t *testing.T) {
	r := rand.New(rand.NewPCG(5, 2))
	for _, inner := range inners(t) {
		for range 50 {
			src, dst := api.Addr(r.Uint32()), api.Addr(r.Uint32())
			taken(t, wrapped(t, src, dst, inner), src, dst, inner)
		}
	}
}

// What is taken of bytes changed anywhere, with sums made to fit, is wrapped again the same bytes.
func TestBackAndThere(t *testing.T) {
	r := rand.New(rand.NewPCG(5, 3))
	took := 0
	for range 5000 {
		b := told(api.Addr(r.Uint32()), api.Addr(r.Uint32()), row(t, oddHex))
		b[r.IntN(20)] = byte(r.Uint32())
		summed(b)
		src, dst, inner, err := tunnel.Unwrap(b)
		if err != nil {
			continue
		}
		took++
		if again := wrapped(t, src, dst, inner); !bytes.Equal(again, b) {
			t.Fatalf("%x taken and wrapped again: %x", b, again)
		}
	}
	if took < 1000 || took > 4000 {
		t.Errorf("%d of 5000 taken: nothing is told by it", took)
	}
}

func TestNoBytesAreBoth(t *testing.T) {
	for _, inner := range inners(t) {
		notTaken(t, "a packet", inner)
		b := wrapped(t, 0x08080808, 0x01010101, inner)
		if _, err := packet.Parse(b); err == nil {
			t.Errorf("%.60x is both", b)
		}
		wrapRefused(t, "a wrapped one", b, api.ErrPacket)
	}
}

// P5.3

func TestNothingIsChanged(t *testing.T) {
	for _, inner := range inners(t) {
		for _, b := range [][]byte{inner, told(1, 2, inner), told(1, 2, inner)[:30]} {
			roomy := append(slices.Clone(b), bytes.Repeat([]byte{0xee}, 100)...)
			was := slices.Clone(roomy)
			tunnel.Wrap(3, 4, roomy[:len(b)])
			tunnel.Unwrap(roomy[:len(b)])
			tunnel.Is(roomy[:len(b)])
			if !bytes.Equal(roomy, was) {
				t.Fatalf("%.60x was changed to %.60x", was, roomy)
			}
		}
	}
}

func TestAnswersAreNewMemory(t *testing.T) {
	for _, inner := range inners(t) {
		handed := append(slices.Clone(inner), 1, 2, 3)[:len(inner)]
		b := wrapped(t, 5, 6, handed)
		handed[0] ^= 0xff
		if !bytes.Equal(b, told(5, 6, inner)) {
			t.Fatal("Wrap's answer shares memory with what was handed in")
		}
		_, _, out, err := tunnel.Unwrap(b)
		_, _, again, _ := tunnel.Unwrap(b)
		if err != nil {
			t.Fatal(err)
		}
		clear(b[:cap(b)])
		if !bytes.Equal(out, inner) {
			t.Fatal("Unwrap's answer shares memory with what was handed in")
		}
		clear(out[:cap(out)])
		if !bytes.Equal(again, inner) {
			t.Fatal("two answers of Unwrap share memory")
		}
	}
}

func TestNothingIsKept(t *testing.T) {
	inner := row(t, synHex)
	first, second := wrapped(t, 1, 2, inner), wrapped(t, 1, 2, inner)
	clear(first[:cap(first)])
	if !bytes.Equal(second, told(1, 2, inner)) || !bytes.Equal(wrapped(t, 1, 2, inner), second) {
		t.Error("Wrap's answers share memory")
	}
}
