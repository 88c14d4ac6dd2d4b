package packet_test

import (
	"bytes"
	"encoding/binary"
	"encoding/hex"
	"errors"
	"math"
	"math/rand/v2"
	"slices"
	"strings"
	"testing"

	"towpath/api"
	"towpath/packet"
)

const (
	mostTCP = 1460
	mostUDP = 1472
)

// sumOf is layer 2's sum, worked out by remainders.
func sumOf(row []byte) uint16 {
	total := uint64(0)
	for i, b := range row {
		if i%2 == 0 {
			total += 256 * uint64(b)
		} else {
			total += uint64(b)
		}
	}
	if total == 0 {
		return 65535
	}
	return 65535 - uint16((total-1)%65535+1)
}

// bytesOf is a packet's bytes as the chapter tells them, written down field by field.
func bytesOf(p api.Packet) []byte {
	rest := []byte{}
	word := func(n int) { rest = binary.BigEndian.AppendUint16(rest, uint16(n)) }
	word(p.Flow.SrcPort)
	word(p.Flow.DstPort)
	sumAt := 26
	if p.Flow.Proto == api.UDP {
		word(8 + len(p.Data))
		word(0)
	} else {
		rest = binary.BigEndian.AppendUint32(rest, p.Seq)
		rest = binary.BigEndian.AppendUint32(rest, p.Ack)
		rest = append(rest, 0x50, byte(p.Flags))
		word(p.Window)
		word(0)
		word(0)
		sumAt = 36
	}
	rest = append(rest, p.Data...)
	length := 20 + len(rest)
	b := []byte{0x45, byte(p.Tos), byte(length >> 8), byte(length), byte(p.Id >> 8), byte(p.Id), 0x40, 0, byte(p.Ttl), byte(p.Flow.Proto), 0, 0}
	b = binary.BigEndian.AppendUint32(b, uint32(p.Flow.Src))
	b = binary.BigEndian.AppendUint32(b, uint32(p.Flow.Dst))
	b = append(b, rest...)
	mend(b, sumAt)
	return b
}

// mend puts both sums right; that behind the first header stands at sumAt.
func mend(b []byte, sumAt int) {
	if len(b) < sumAt+2 {
		return
	}
	binary.BigEndian.PutUint16(b[10:], 0)
	binary.BigEndian.PutUint16(b[10:], sumOf(b[:20]))
	binary.BigEndian.PutUint16(b[sumAt:], 0)
	row := slices.Concat(b[12:20], []byte{0, b[9], byte((len(b) - 20) >> 8), byte(len(b) - 20)}, b[20:])
	c := sumOf(row)
	if c == 0 && sumAt == 26 {
		c = 0xffff
	}
	binary.BigEndian.PutUint16(b[sumAt:], c)
}

func numbers() *rand.Rand {
	return rand.New(rand.NewPCG(3, 3))
}

func someData(r *rand.Rand, length int) []byte {
	row := make([]byte, length)
	for i := range row {
		row[i] = byte(r.Uint32())
	}
	return row
}

func udp() api.Packet {
	return api.Packet{Ttl: 64, Flow: api.Flow{Proto: api.UDP, Src: 0x01020304, SrcPort: 1, Dst: 0x05060708, DstPort: 2}}
}

func tcp() api.Packet {
	return api.Packet{
		Tos: 1, Id: 0x0203, Ttl: 4,
		Flow: api.Flow{Proto: api.TCP, Src: 0x0a010002, SrcPort: 0xc001, Dst: 0x08080404, DstPort: 80},
		Seq:  0x11121314, Ack: 0x21222324, Flags: api.SYN | api.ACK, Window: 0x3132,
		Data: []byte{0x41, 0x42, 0x43},
	}
}

// somePacket is a packet in form, of all kinds of numbers.
func somePacket(r *rand.Rand, length int) api.Packet {
	edge := func(most int) int {
		return [...]int{0, most, r.IntN(most + 1), r.IntN(most + 1)}[r.IntN(4)]
	}
	long := func() uint32 { return uint32(edge(math.MaxUint32)) }
	p := api.Packet{
		Tos: edge(255), Id: edge(65535), Ttl: 1 + edge(254),
		Flow: api.Flow{Proto: api.UDP, Src: api.Addr(long()), SrcPort: edge(65535), Dst: api.Addr(long()), DstPort: edge(65535)},
		Data: someData(r, length),
	}
	if r.IntN(2) == 0 && length <= mostTCP {
		p.Flow.Proto = api.TCP
		p.Seq, p.Ack, p.Flags, p.Window = long(), long(), edge(255), edge(65535)
	}
	return p
}

// somePackets are packets in form with Data of all short lengths and of the longest ones.
func somePackets() []api.Packet {
	r := numbers()
	packets := []api.Packet{udp(), tcp()}
	for length := range 60 {
		packets = append(packets, somePacket(r, length), somePacket(r, length), somePacket(r, length), somePacket(r, length))
	}
	for length := mostTCP - 20; length <= mostUDP; length++ {
		packets = append(packets, somePacket(r, length))
	}
	return packets
}

func build(t *testing.T, p api.Packet) []byte {
	t.Helper()
	b, err := packet.Build(p)
	if err != nil {
		t.Fatalf("Build(%+v): %v", p, err)
	}
	return b
}

func refused(t *testing.T, what string, b []byte) {
	t.Helper()
	p, err := packet.Parse(b)
	if !errors.Is(err, api.ErrPacket) || !packet.Same(p, api.Packet{}) || p.Data != nil {
		t.Errorf("Parse of %s = %+v, %v, want ErrPacket: %.60x", what, p, err, b)
	}
	if f, ok := packet.Flow(b); ok || f != (api.Flow{}) {
		t.Errorf("Flow of %s = %+v, %v: %.60x", what, f, ok, b)
	}
}

func taken(t *testing.T, what string, b []byte, want api.Packet) {
	t.Helper()
	p, err := packet.Parse(b)
	if err != nil || !same(p, want) {
		t.Errorf("Parse of %s = %+v, %v, want %+v", what, p, err, want)
	}
	if f, ok := packet.Flow(b); !ok || f != want.Flow {
		t.Errorf("Flow of %s = %+v, %v, want %+v", what, f, ok, want.Flow)
	}
}

// same is what Same has to answer, by way of structs without Data.
func same(a, b api.Packet) bool {
	type plain struct {
		tos, id, ttl, flags, window int
		flow                        api.Flow
		seq, ack                    uint32
		data                        string
	}
	of := func(p api.Packet) plain {
		return plain{p.Tos, p.Id, p.Ttl, p.Flags, p.Window, p.Flow, p.Seq, p.Ack, string(p.Data)}
	}
	return of(a) == of(b)
}

// P3.1

func TestCheck(t *testing.T) {
	type change struct {
		what   string
		change func(p *api.Packet)
		udp    bool
		tcp    bool
	}
	long := func(n int) func(p *api.Packet) { return func(p *api.Packet) { p.Data = make([]byte, n) } }
	for _, c := range []change{
		{"nothing", func(p *api.Packet) {}, true, true},
		{"Tos -1", func(p *api.Packet) { p.Tos = -1 }, false, false},
		{"Tos 0", func(p *api.Packet) { p.Tos = 0 }, true, true},
		{"Tos 255", func(p *api.Packet) { p.Tos = 255 }, true, true},
		{"Tos 256", func(p *api.Packet) { p.Tos = 256 }, false, false},
		{"Id -1", func(p *api.Packet) { p.Id = -1 }, false, false},
		{"Id 0", func(p *api.Packet) { p.Id = 0 }, true, true},
		{"Id 65535", func(p *api.Packet) { p.Id = 65535 }, true, true},
		{"Id 65536", func(p *api.Packet) { p.Id = 65536 }, false, false},
		{"Ttl -1", func(p *api.Packet) { p.Ttl = -1 }, false, false},
		{"Ttl 0", func(p *api.Packet) { p.Ttl = 0 }, false, false},
		{"Ttl 1", func(p *api.Packet) { p.Ttl = 1 }, true, true},
		{"Ttl 255", func(p *api.Packet) { p.Ttl = 255 }, true, true},
		{"Ttl 256", func(p *api.Packet) { p.Ttl = 256 }, false, false},
		{"the least Ttl", func(p *api.Packet) { p.Ttl = math.MinInt }, false, false},
		{"the greatest Tos", func(p *api.Packet) { p.Tos = math.MaxInt }, false, false},
		{"Proto 0", func(p *api.Packet) { p.Flow.Proto = 0 }, false, false},
		{"Proto 4", func(p *api.Packet) { p.Flow.Proto = api.IPIP }, false, false},
		{"Proto 1", func(p *api.Packet) { p.Flow.Proto = 1 }, false, false},
		{"Proto 262", func(p *api.Packet) { p.Flow.Proto = 256 + api.TCP }, false, false},
		{"Proto 273", func(p *api.Packet) { p.Flow.Proto = 256 + api.UDP }, false, false},
		{"SrcPort -1", func(p *api.Packet) { p.Flow.SrcPort = -1 }, false, false},
		{"SrcPort 0", func(p *api.Packet) { p.Flow.SrcPort = 0 }, true, true},
		{"SrcPort 65535", func(p *api.Packet) { p.Flow.SrcPort = 65535 }, true, true},
		{"SrcPort 65536", func(p *api.Packet) { p.Flow.SrcPort = 65536 }, false, false},
		{"DstPort -1", func(p *api.Packet) { p.Flow.DstPort = -1 }, false, false},
		{"DstPort 0", func(p *api.Packet) { p.Flow.DstPort = 0 }, true, true},
		{"DstPort 65535", func(p *api.Packet) { p.Flow.DstPort = 65535 }, true, true},
		{"DstPort 65536", func(p *api.Packet) { p.Flow.DstPort = 65536 }, false, false},
		{"Src 0", func(p *api.Packet) { p.Flow.Src = 0 }, true, true},
		{"Dst 255.255.255.255", func(p *api.Packet) { p.Flow.Dst = math.MaxUint32 }, true, true},
		{"Seq 1", func(p *api.Packet) { p.Seq = 1 }, false, true},
		{"the greatest Seq", func(p *api.Packet) { p.Seq = math.MaxUint32 }, false, true},
		{"Ack 1", func(p *api.Packet) { p.Ack = 1 }, false, true},
		{"the greatest Ack", func(p *api.Packet) { p.Ack = math.MaxUint32 }, false, true},
		{"Flags -1", func(p *api.Packet) { p.Flags = -1 }, false, false},
		{"Flags 1", func(p *api.Packet) { p.Flags = 1 }, false, true},
		{"Flags 255", func(p *api.Packet) { p.Flags = 255 }, false, true},
		{"Flags 256", func(p *api.Packet) { p.Flags = 256 }, false, false},
		{"Window -1", func(p *api.Packet) { p.Window = -1 }, false, false},
		{"Window 1", func(p *api.Packet) { p.Window = 1 }, false, true},
		{"Window 65535", func(p *api.Packet) { p.Window = 65535 }, false, true},
		{"Window 65536", func(p *api.Packet) { p.Window = 65536 }, false, false},
		{"no Data", func(p *api.Packet) { p.Data = nil }, true, true},
		{"empty Data", long(0), true, true},
		{"1460 bytes", long(1460), true, true},
		{"1461 bytes", long(1461), true, false},
		{"1472 bytes", long(1472), true, false},
		{"1473 bytes", long(1473), false, false},
		{"1500 bytes", long(1500), false, false},
		{"70000 bytes", long(70000), false, false},
	} {
		for _, kind := range []struct {
			p    api.Packet
			want bool
		}{{udp(), c.udp}, {tcp(), c.tcp}} {
			p := kind.p
			c.change(&p)
			err := packet.Check(p)
			if kind.want && err != nil || !kind.want && !errors.Is(err, api.ErrForm) {
				t.Errorf("Check with %s = %v, want in form: %v", c.what, err, kind.want)
			}
			b, err := packet.Build(p)
			if kind.want && (err != nil || !bytes.Equal(b, bytesOf(p))) {
				t.Errorf("Build with %s = %.60x, %v", c.what, b, err)
			}
			if !kind.want && (!errors.Is(err, api.ErrForm) || b != nil) {
				t.Errorf("Build with %s = %.60x, %v, want ErrForm", c.what, b, err)
			}
		}
	}
	if err := packet.Check(api.Packet{}); !errors.Is(err, api.ErrForm) {
		t.Errorf("Check of the zero packet = %v", err)
	}
}

func TestBuildByHand(t *testing.T) {
	withData := udp()
	withData.Data = []byte("odd")
	for _, c := range []struct {
		p    api.Packet
		want string
	}{
		{udp(), "4500001c 00004000 40112abe 01020304 05060708 00010002 0008efc7"},
		{withData, "4500001f 00004000 40112abb 01020304 05060708 00010002 000b1c5d 6f6464"},
		{tcp(), "4501002b 02034000 04065ebb 0a010002 08080404 c0010050 11121314 21222324 50123132 bb8e0000 414243"},
	} {
		want, err := hex.DecodeString(strings.ReplaceAll(c.want, " ", ""))
		if err != nil {
			t.Fatal(err)
		}
		if got := build(t, c.p); !bytes.Equal(got, want) {
			t.Errorf("Build(%+v) =\n%x, want\n%x", c.p, got, want)
		}
		taken(t, "a packet by hand", want, c.p)
	}
}

func TestBuild(t *testing.T) {
	for _, p := range somePackets() {
		if got, want := build(t, p), bytesOf(p); !bytes.Equal(got, want) {
			t.Errorf("Build(%+v) = %.60x, want %.60x", p, got, want)
		}
	}
}

func TestBuildLengths(t *testing.T) {
	short := tcp()
	short.Data = nil
	long, longest := tcp(), udp()
	long.Data, longest.Data = make([]byte, mostTCP), make([]byte, mostUDP)
	for _, c := range []struct {
		p    api.Packet
		want int
	}{{udp(), 28}, {short, 40}, {long, 1500}, {longest, 1500}} {
		if got := len(build(t, c.p)); got != c.want {
			t.Errorf("%d bytes, want %d", got, c.want)
		}
	}
}

func TestParseRefusesWrongFields(t *testing.T) {
	short := tcp()
	short.Data = nil
	for _, p := range []api.Packet{udp(), short, tcp()} {
		sumAt := 36
		if p.Flow.Proto == api.UDP {
			sumAt = 26
		}
		good := bytesOf(p)
		for _, c := range []struct {
			what string
			at   int
			is   byte
		}{
			{"version 5", 0, 0x55},
			{"version 6", 0, 0x65},
			{"a header of 24 bytes", 0, 0x46},
			{"a header of 16 bytes", 0, 0x44},
			{"a header of 0 bytes", 0, 0x40},
			{"a length above its own", 3, good[3] + 1},
			{"a length below its own", 3, good[3] - 1},
			{"a length far above its own", 2, good[2] + 1},
			{"no bit against fragments", 6, 0x00},
			{"more fragments", 6, 0x60},
			{"more fragments alone", 6, 0x20},
			{"the third bit", 6, 0xc0},
			{"a fragment's place", 7, 1},
			{"a fragment's far place", 6, 0x50},
			{"Ttl 0", 8, 0},
			{"protocol 0", 9, 0},
			{"protocol 1", 9, 1},
			{"protocol 4", 9, api.IPIP},
			{"protocol 255", 9, 255},
		} {
			b := slices.Clone(good)
			b[c.at] = c.is
			mend(b, sumAt)
			refused(t, c.what, b)
		}
	}
}

func TestParseRefusesWrongUDP(t *testing.T) {
	p := udp()
	p.Data = []byte{1, 2, 3, 4}
	for _, c := range []struct {
		what string
		at   int
		is   byte
	}{
		{"UDP's length above its own", 25, 13},
		{"UDP's length below its own", 25, 11},
		{"UDP's length without its own 8", 25, 4},
		{"UDP's length 8", 25, 8},
		{"UDP's length 0", 25, 0},
		{"UDP's length far above its own", 24, 1},
	} {
		b := bytesOf(p)
		b[c.at] = c.is
		mend(b, 26)
		refused(t, c.what, b)
	}
	none := bytesOf(p)
	none[26], none[27] = 0, 0
	refused(t, "UDP without a sum", none)
}

func TestParseRefusesWrongTCP(t *testing.T) {
	for _, c := range []struct {
		what string
		at   int
		is   byte
	}{
		{"TCP's header of 24 bytes", 32, 0x60},
		{"TCP's header of 16 bytes", 32, 0x40},
		{"TCP's header of 0 bytes", 32, 0},
		{"a bit beside TCP's header's length", 32, 0x51},
		{"all bits beside TCP's header's length", 32, 0x5f},
		{"urgent bytes", 39, 1},
		{"many urgent bytes", 38, 1},
	} {
		b := bytesOf(tcp())
		b[c.at] = c.is
		mend(b, 36)
		refused(t, c.what, b)
	}
	none := bytesOf(tcp())
	none[36], none[37] = 0, 0
	refused(t, "TCP without a sum", none)
}

// TCP's header where UDP's is asked for, and the other way round.
func TestParseRefusesTheOtherProtocol(t *testing.T) {
	b := bytesOf(tcp())
	b[9] = api.UDP
	mend(b, 26)
	refused(t, "TCP as UDP", b)
	p := udp()
	for _, length := range []int{0, 11, 12, 13, 40} {
		p.Data = make([]byte, length)
		b := bytesOf(p)
		b[9] = api.TCP
		mend(b, min(36, len(b)-2))
		refused(t, "UDP as TCP", b)
	}
}

func TestParseRefusesOtherLengths(t *testing.T) {
	for _, p := range []api.Packet{udp(), tcp()} {
		sumAt := 36
		if p.Flow.Proto == api.UDP {
			sumAt = 26
		}
		p.Data = []byte("some bytes")
		b := bytesOf(p)
		for length := range len(b) {
			refused(t, "a packet's beginning", b[:length])
			cut := slices.Clone(b[:length])
			mend(cut, sumAt)
			refused(t, "a packet's beginning with its sums", cut)
			if length >= 20 {
				cut[3] = byte(length)
				mend(cut, sumAt)
				if p.Flow.Proto == api.UDP || length < 40 {
					refused(t, "a packet's beginning with its length", cut)
				}
			}
		}
		for _, more := range [][]byte{{0}, {0, 0}, {1, 2, 3}, make([]byte, 1500)} {
			longer := slices.Concat(b, more)
			refused(t, "bytes behind the length", longer)
			mend(longer, sumAt)
			refused(t, "bytes behind the length, with their sums", longer)
		}
	}
	refused(t, "no bytes", nil)
	refused(t, "no bytes", []byte{})
	for _, length := range []int{1, 20, 28, 40, 1500, 1501, 65536, 1 << 20} {
		refused(t, "noughts", make([]byte, length))
		refused(t, "ones", bytes.Repeat([]byte{0xff}, length))
		refused(t, "forty-fives", bytes.Repeat([]byte{0x45}, length))
	}
}

// Packets of more than 1500 bytes that are right in all other things.
func TestParseRefusesTooLongPackets(t *testing.T) {
	for _, length := range []int{mostTCP + 1, mostUDP + 1, 2000, 65507} {
		p := tcp()
		p.Data = make([]byte, length)
		if b := bytesOf(p); len(b) <= 65535 {
			refused(t, "a long TCP packet", b)
		}
		p = udp()
		p.Data = make([]byte, length)
		if b := bytesOf(p); len(b) > 1500 {
			refused(t, "a long UDP packet", b)
		}
	}
}

// withSum0 is a packet with such Data that the sum behind its first header is worked out as 0.
func withSum0(p api.Packet) api.Packet {
	sumAt := 36
	if p.Flow.Proto == api.UDP {
		sumAt = 26
	}
	p.Data = []byte{0, 0}
	b := bytesOf(p)
	c := binary.BigEndian.Uint16(b[sumAt:])
	p.Data = []byte{byte(c >> 8), byte(c)}
	return p
}

func TestSumsOf0(t *testing.T) {
	p := withSum0(udp())
	b := build(t, p)
	if b[26] != 0xff || b[27] != 0xff {
		t.Errorf("UDP's sum is %x, want ffff", b[26:28])
	}
	taken(t, "UDP with the sum ffff", b, p)
	b[26], b[27] = 0, 0
	refused(t, "UDP with the sum 0", b)

	p = withSum0(tcp())
	b = build(t, p)
	if b[36] != 0 || b[37] != 0 {
		t.Errorf("TCP's sum is %x, want 0000", b[36:38])
	}
	taken(t, "TCP with the sum 0", b, p)
	b[36], b[37] = 0xff, 0xff
	refused(t, "TCP with the sum ffff", b)

	p = udp()
	p.Id = int(binary.BigEndian.Uint16(bytesOf(p)[10:]))
	b = build(t, p)
	if b[10] != 0 || b[11] != 0 {
		t.Errorf("the header's sum is %x, want 0000", b[10:12])
	}
	taken(t, "the header with the sum 0", b, p)
	b[10], b[11] = 0xff, 0xff
	refused(t, "the header with the sum ffff", b)
}

func TestSame(t *testing.T) {
	for _, base := range []api.Packet{{}, udp(), tcp()} {
		if !packet.Same(base, base) {
			t.Errorf("Same(%+v, itself) = false", base)
		}
		for i, change := range []func(p *api.Packet){
			func(p *api.Packet) { p.Tos++ },
			func(p *api.Packet) { p.Tos += 256 },
			func(p *api.Packet) { p.Id++ },
			func(p *api.Packet) { p.Id -= 65536 },
			func(p *api.Packet) { p.Ttl++ },
			func(p *api.Packet) { p.Flow.Proto++ },
			func(p *api.Packet) { p.Flow.Src++ },
			func(p *api.Packet) { p.Flow.SrcPort++ },
			func(p *api.Packet) { p.Flow.Dst++ },
			func(p *api.Packet) { p.Flow.DstPort++ },
			func(p *api.Packet) { p.Seq++ },
			func(p *api.Packet) { p.Ack++ },
			func(p *api.Packet) { p.Flags++ },
			func(p *api.Packet) { p.Window++ },
			func(p *api.Packet) { p.Data = append(slices.Clone(p.Data), 0) },
			func(p *api.Packet) { p.Data = append([]byte{0}, p.Data...) },
			func(p *api.Packet) { p.Data = []byte{0x41, 0x42, 0x44} },
			func(p *api.Packet) { p.Data = []byte{0x41, 0x42} },
		} {
			other := base
			change(&other)
			if packet.Same(base, other) || packet.Same(other, base) {
				t.Errorf("change %d of %+v: Same = true", i, base)
			}
			if !packet.Same(other, other) {
				t.Errorf("change %d of %+v: not the same as itself", i, base)
			}
		}
	}
	none, empty, copied := udp(), udp(), tcp()
	empty.Data = []byte{}
	copied.Data = slices.Clone(copied.Data)
	if !packet.Same(none, empty) || !packet.Same(empty, none) {
		t.Error("nil and empty Data aren't the same")
	}
	if !packet.Same(copied, tcp()) {
		t.Error("the same bytes at another place aren't the same")
	}
}

// P3.2

func TestParseOfBuildIsThePacket(t *testing.T) {
	for _, p := range somePackets() {
		taken(t, "what Build answers", build(t, p), p)
	}
	r := numbers()
	for length := range mostUDP + 1 {
		p := somePacket(r, length)
		taken(t, "what Build answers", build(t, p), p)
	}
}

// Each byte of a packet becomes each other byte, with the sums put right: what is taken still is what would be built.
func TestWhatParseTakesIsBuiltAgain(t *testing.T) {
	r := numbers()
	var count [2]int
	for _, p := range []api.Packet{udp(), tcp(), somePacket(r, 0), somePacket(r, 5), somePacket(r, 14), withSum0(udp()), withSum0(tcp())} {
		good := bytesOf(p)
		for at := range good {
			for is := range 256 {
				b := slices.Clone(good)
				b[at] = byte(is)
				for _, sumAt := range []int{26, 36, len(b)} {
					mend(b, sumAt)
					again, err := packet.Parse(b)
					if err != nil {
						refused(t, "a changed packet", b)
						count[0]++
						continue
					}
					count[1]++
					if built := build(t, again); !bytes.Equal(built, b) {
						t.Errorf("Parse takes %x, which is built %x", b, built)
					}
					taken(t, "a changed packet", b, again)
				}
			}
		}
	}
	if count[0] == 0 || count[1] == 0 {
		t.Errorf("refused and taken: %v", count)
	}
}

func TestParseOfAnyBytes(t *testing.T) {
	r := numbers()
	for range 20_000 {
		b := someData(r, r.IntN(80))
		if len(b) > 20 && r.IntN(2) == 0 {
			copy(b, []byte{0x45, 0, 0, byte(len(b)), 0, 0, 0x40, 0, 64, [2]byte{api.UDP, api.TCP}[r.IntN(2)]})
			mend(b, 26)
		}
		p, err := packet.Parse(b)
		if err == nil && !bytes.Equal(bytesOf(p), b) {
			t.Errorf("Parse(%x) = %+v", b, p)
		}
	}
}

// P3.3

func TestOneBitChanged(t *testing.T) {
	r := numbers()
	zero := api.Packet{Ttl: 1, Flow: api.Flow{Proto: api.TCP}}
	zeroUDP := api.Packet{Ttl: 1, Flow: api.Flow{Proto: api.UDP}}
	full := udp()
	full.Data = bytes.Repeat([]byte{0xff}, mostUDP)
	packets := []api.Packet{udp(), tcp(), zero, zeroUDP, withSum0(udp()), withSum0(tcp()), full, somePacket(r, 1460), somePacket(r, 12), somePacket(r, 33)}
	for _, p := range packets {
		good := build(t, p)
		for bit := range 8 * len(good) {
			b := slices.Clone(good)
			b[bit/8] ^= 1 << (bit % 8)
			refused(t, "a packet with one bit changed", b)
		}
	}
}

// P3.4

func TestWhatIsHandedInStays(t *testing.T) {
	for _, p := range []api.Packet{udp(), tcp()} {
		room := []byte("0123456789 and spare room")
		all := slices.Clone(room)
		p.Data = room[2:9:20]
		other := p
		b := build(t, p)
		packet.Check(p)
		packet.Same(p, other)
		if !bytes.Equal(room, all) || len(p.Data) != 7 || cap(p.Data) != 18 {
			t.Errorf("Data's room is %q", room)
		}
		long := append(slices.Clone(b), "spare room"...)
		was := slices.Clone(long)
		row := long[:len(b)]
		if _, err := packet.Parse(row); err != nil {
			t.Error(err)
		}
		packet.Flow(row)
		if !bytes.Equal(long, was) {
			t.Errorf("the bytes are %x, were %x", long, was)
		}
		row[len(row)-1]++
		was = slices.Clone(long)
		packet.Parse(row)
		packet.Flow(row)
		if !bytes.Equal(long, was) {
			t.Errorf("bytes that are refused are %x, were %x", long, was)
		}
	}
}

func TestAnswersAreNewMemory(t *testing.T) {
	for _, p := range []api.Packet{udp(), tcp()} {
		p.Data = []byte("0123456789")
		first, want := build(t, p), bytesOf(p)
		for i := range p.Data {
			p.Data[i] = 'x'
		}
		if !bytes.Equal(first, want) {
			t.Error("Build's answer changes with Data")
		}
		copy(p.Data, "0123456789")
		second := build(t, p)
		clear(first[:cap(first)])
		if !bytes.Equal(second, want) || string(p.Data) != "0123456789" {
			t.Error("two answers of Build share memory, or one with Data")
		}

		one, err := packet.Parse(second)
		if err != nil {
			t.Fatal(err)
		}
		two, err := packet.Parse(second)
		if err != nil {
			t.Fatal(err)
		}
		clear(one.Data[:cap(one.Data)])
		if string(two.Data) != "0123456789" || !bytes.Equal(second, want) {
			t.Error("Parse's Data shares memory with another's, or with the bytes")
		}
		clear(second)
		if string(two.Data) != "0123456789" {
			t.Error("Parse's Data changes with the bytes")
		}
		if again := build(t, two); !bytes.Equal(again, want) {
			t.Error("a later call answers otherwise")
		}
	}
}
