package rewrite_test

import (
	"bytes"
	"encoding/binary"
	"encoding/hex"
	"errors"
	"math"
	"math/rand/v2"
	"slices"
	"strings"
	"testing"

	"towpath/api"
	"towpath/packet"
	"towpath/rewrite"
	"towpath/sum"
)

// synHex is a SYN from 8.8.8.8, 5000, to 1.1.1.1, 80; oddHex is UDP from 10.1.0.1, 53, to 9.9.9.9, 65535, with three bytes. Their sums, and those of TestByHand, were worked out apart from this program.
const (
	synHex = "45000028 00074000 400628b8 08080808 01010101 13880050 00000001 00000000 50020200 87f80000"
	oddHex = "4503001f 01024000 091154b6 0a010001 09090909 0035ffff 000b102b 6f6464"
)

var (
	wrongPorts = []int{math.MinInt, -65536, -65535, -2, -1, 65536, 65537, 65536 + 80, 1 << 17, 1 << 32, 1<<32 + 80, math.MaxInt}
	edgePorts  = []int{0, 1, 80, 255, 256, 1024, 32767, 32768, 65534, 65535}
	edgeAddrs  = []api.Addr{0, 1, 0xffff, 0x10000, 0x01010101, 0x0a010001, 0x7fffffff, 0x80000000, 0xffff0000, 0xfffffffe, 0xffffffff}
)

func row(t *testing.T, text string) []byte {
	t.Helper()
	b, err := hex.DecodeString(strings.ReplaceAll(text, " ", ""))
	if err != nil {
		t.Fatal(err)
	}
	return b
}

func built(t *testing.T, p api.Packet) []byte {
	t.Helper()
	b, err := packet.Build(p)
	if err != nil {
		t.Fatalf("Build(%+v): %v", p, err)
	}
	return b
}

// innerAt is where the sum of a packet stands that is behind its first header.
func innerAt(b []byte) int {
	if b[9] == api.UDP {
		return 26
	}
	return 36
}

// tuned is a packet with such last two bytes that its inner sum is worked out as this one.
func tuned(t *testing.T, p api.Packet, want uint16) api.Packet {
	t.Helper()
	p.Data = append(slices.Clone(p.Data), 0, 0)
	b := built(t, p)
	was := binary.BigEndian.Uint16(b[innerAt(b):])
	// The words add to ffff less the sum: what they lack of it, modulo ffff, is the last one.
	last := (int(was) - int(want) + 2*math.MaxUint16) % math.MaxUint16
	binary.BigEndian.PutUint16(p.Data[len(p.Data)-2:], uint16(last))
	return p
}

// samples are packets of both protocols: short and long, odd and even, with all kinds of sums.
func samples(t *testing.T) []api.Packet {
	t.Helper()
	udp := api.Packet{Tos: 1, Id: 2, Ttl: 3, Flow: api.Flow{Proto: api.UDP, Src: 0x08080808, SrcPort: 5000, Dst: 0x01010101, DstPort: 80}}
	tcp := udp
	tcp.Flow.Proto = api.TCP
	tcp.Seq, tcp.Ack, tcp.Flags, tcp.Window = 0xfedcba98, 0x76543210, api.SYN|api.ACK, 0xabcd
	zeroUDP := api.Packet{Ttl: 1, Flow: api.Flow{Proto: api.UDP}}
	zeroTCP := api.Packet{Ttl: 1, Flow: api.Flow{Proto: api.TCP}}
	fullUDP := api.Packet{
		Tos: 255, Id: 65535, Ttl: 255, Data: bytes.Repeat([]byte{255}, 1472),
		Flow: api.Flow{Proto: api.UDP, Src: math.MaxUint32, SrcPort: 65535, Dst: math.MaxUint32, DstPort: 65535},
	}
	fullTCP := fullUDP
	fullTCP.Flow.Proto, fullTCP.Data = api.TCP, fullUDP.Data[:1460]
	fullTCP.Seq, fullTCP.Ack, fullTCP.Flags, fullTCP.Window = math.MaxUint32, math.MaxUint32, 255, 65535
	list := []api.Packet{udp, tcp, zeroUDP, zeroTCP, fullUDP, fullTCP}
	for _, p := range []api.Packet{udp, tcp, zeroUDP, zeroTCP} {
		for _, data := range []string{"x", "xy", "some bytes."} {
			q := p
			q.Data = []byte(data)
			list = append(list, q)
		}
		for _, c := range []uint16{0, 1, 0x8000, 0xfffe} {
			list = append(list, tuned(t, p, c))
		}
	}
	return list
}

// flowsFor are flows of a protocol, each at some edge, and some of all numbers.
func flowsFor(proto int) []api.Flow {
	var list []api.Flow
	for i, a := range edgeAddrs {
		for j, port := range edgePorts {
			other, otherPort := edgeAddrs[(i+j)%len(edgeAddrs)], edgePorts[(3*i+j)%len(edgePorts)]
			list = append(list, api.Flow{Proto: proto, Src: a, SrcPort: port, Dst: other, DstPort: otherPort})
		}
	}
	r := rand.New(rand.NewPCG(4, 4))
	for range 100 {
		list = append(list, api.Flow{
			Proto: proto, Src: api.Addr(r.Uint32()), SrcPort: r.IntN(65536), Dst: api.Addr(r.Uint32()), DstPort: r.IntN(65536),
		})
	}
	return list
}

// notPackets are rows of bytes that layer 3 refuses.
func notPackets(t *testing.T) map[string][]byte {
	t.Helper()
	syn, odd := row(t, synHex), row(t, oddHex)
	turned := func(b []byte, at int) []byte {
		c := slices.Clone(b)
		c[at] ^= 1
		return c
	}
	noSum := slices.Clone(odd)
	noSum[26], noSum[27] = 0, 0
	return map[string][]byte{
		"nil": nil, "no bytes": {}, "a byte": {0x45}, "20 bytes": syn[:20], "39 bytes": syn[:39], "noughts": make([]byte, 60),
		"too many": make([]byte, 1501), "far too many": make([]byte, 1<<20),
		"a byte behind": append(slices.Clone(syn), 0), "a byte less": odd[:len(odd)-1],
		"Src turned": turned(syn, 12), "DstPort turned": turned(syn, 22), "a sum turned": turned(syn, 10),
		"TCP's sum turned": turned(syn, 36), "UDP's sum turned": turned(odd, 26), "Data turned": turned(odd, 30), "no sum": noSum,
	}
}

func refused(t *testing.T, what string, b []byte, err error, want api.Errno) {
	t.Helper()
	if b != nil || !errors.Is(err, want) {
		t.Errorf("%s = %x, %v, want nothing and %v", what, b, err, want)
	}
}

func answered(t *testing.T, what string, b []byte, err error, want []byte) {
	t.Helper()
	if err != nil || !bytes.Equal(b, want) {
		t.Errorf("%s =\n%.80x, %v, want\n%.80x", what, b, err, want)
	}
}

// answers are what Source, Dest and Both make of a packet by a flow.
func answers(t *testing.T, b []byte, f api.Flow) ([]byte, []byte, []byte) {
	t.Helper()
	source, err := rewrite.Source(b, f.Src, f.SrcPort)
	dest, destErr := rewrite.Dest(b, f.Dst, f.DstPort)
	both, bothErr := rewrite.Both(b, f)
	if err := errors.Join(err, destErr, bothErr); err != nil {
		t.Fatalf("by %+v: %v", f, err)
	}
	return source, dest, both
}

// P4.1

func TestByHand(t *testing.T) {
	syn, odd := row(t, synHex), row(t, oddHex)
	b, err := rewrite.Dest(syn, 0x0a010001, 8080)
	answered(t, "Dest", b, err, row(t, "45000028 00074000 400620b8 08080808 0a010001 13881f90 00000001 00000000 50020200 60b80000"))
	b, err = rewrite.Source(odd, 0x02020202, 1024)
	answered(t, "Source", b, err, row(t, "4503001f 01024000 09115ab4 02020202 09090909 0400ffff 000b125e 6f6464"))
	b, err = rewrite.Both(odd, api.Flow{Proto: api.UDP, Src: 0xffffffff, SrcPort: 0, Dst: 0, DstPort: 65535})
	answered(t, "Both", b, err, row(t, "4503001f 01024000 091170ca ffffffff 00000000 0000ffff 000b2c74 6f6464"))
}

func TestAnswersAreWhatBuildMakes(t *testing.T) {
	for _, p := range samples(t) {
		b := built(t, p)
		for _, f := range flowsFor(p.Flow.Proto) {
			q := p
			q.Flow.Src, q.Flow.SrcPort = f.Src, f.SrcPort
			got, err := rewrite.Source(b, f.Src, f.SrcPort)
			answered(t, "Source", got, err, built(t, q))
			q = p
			q.Flow.Dst, q.Flow.DstPort = f.Dst, f.DstPort
			got, err = rewrite.Dest(b, f.Dst, f.DstPort)
			answered(t, "Dest", got, err, built(t, q))
			q = p
			q.Flow = f
			got, err = rewrite.Both(b, f)
			answered(t, "Both", got, err, built(t, q))
		}
	}
}

func TestEveryPort(t *testing.T) {
	for _, text := range []string{synHex, oddHex} {
		b := row(t, text)
		p, err := packet.Parse(b)
		if err != nil {
			t.Fatal(err)
		}
		for port := range 65536 {
			q := p
			q.Flow.SrcPort = port
			got, err := rewrite.Source(b, p.Flow.Src, port)
			answered(t, "Source", got, err, built(t, q))
			q = p
			q.Flow.DstPort = port
			got, err = rewrite.Dest(b, p.Flow.Dst, port)
			answered(t, "Dest", got, err, built(t, q))
		}
	}
}

func TestNoPacketIsRefused(t *testing.T) {
	good := row(t, synHex)
	for what, b := range notPackets(t) {
		// A port or a flow that is wrong too doesn't come first.
		for _, port := range append([]int{80}, wrongPorts...) {
			got, err := rewrite.Source(b, 1, port)
			refused(t, "Source of "+what, got, err, api.ErrPacket)
			got, err = rewrite.Dest(b, 1, port)
			refused(t, "Dest of "+what, got, err, api.ErrPacket)
			for _, proto := range []int{api.TCP, api.UDP, 0, 1} {
				got, err = rewrite.Both(b, api.Flow{Proto: proto, SrcPort: port})
				refused(t, "Both of "+what, got, err, api.ErrPacket)
			}
		}
		if rewrite.Like(b, b) || rewrite.Like(b, good) || rewrite.Like(good, b) {
			t.Errorf("Like with %s = true", what)
		}
	}
	if rewrite.Like(nil, nil) {
		t.Error("Like of no bytes = true")
	}
}

func TestWrongFormIsRefused(t *testing.T) {
	for _, text := range []string{synHex, oddHex} {
		b := row(t, text)
		f, ok := packet.Flow(b)
		if !ok {
			t.Fatal("no packet")
		}
		for _, port := range wrongPorts {
			got, err := rewrite.Source(b, 1, port)
			refused(t, "Source", got, err, api.ErrForm)
			got, err = rewrite.Dest(b, 1, port)
			refused(t, "Dest", got, err, api.ErrForm)
			g := f
			g.SrcPort = port
			got, err = rewrite.Both(b, g)
			refused(t, "Both with a wrong SrcPort", got, err, api.ErrForm)
			g = f
			g.DstPort = port
			got, err = rewrite.Both(b, g)
			refused(t, "Both with a wrong DstPort", got, err, api.ErrForm)
		}
		for _, proto := range []int{api.TCP + api.UDP - f.Proto, 0, 1, api.IPIP, 255, f.Proto + 256, f.Proto - 256, -f.Proto, f.Proto + 1<<32, math.MinInt, math.MaxInt} {
			g := f
			g.Proto = proto
			got, err := rewrite.Both(b, g)
			refused(t, "Both with another protocol", got, err, api.ErrForm)
		}
	}
}

func TestLike(t *testing.T) {
	list := samples(t)
	for i, p := range list {
		for j, q := range list {
			same := p
			same.Flow.Src, same.Flow.SrcPort, same.Flow.Dst, same.Flow.DstPort = q.Flow.Src, q.Flow.SrcPort, q.Flow.Dst, q.Flow.DstPort
			if got, want := rewrite.Like(built(t, p), built(t, q)), packet.Same(same, q); got != want {
				t.Errorf("Like of samples %d and %d = %v", i, j, got)
			}
		}
	}
}

func TestLikeTellsAllElse(t *testing.T) {
	for _, p := range samples(t) {
		if len(p.Data) > 100 {
			continue
		}
		b := built(t, p)
		for i, change := range []func(p *api.Packet){
			func(p *api.Packet) { p.Tos ^= 1 },
			func(p *api.Packet) { p.Id ^= 256 },
			func(p *api.Packet) { p.Ttl ^= 2 },
			func(p *api.Packet) { p.Data = append(slices.Clone(p.Data), 0) },
			func(p *api.Packet) { p.Data = append([]byte{7}, p.Data...) },
			func(p *api.Packet) { p.Flow.Proto, p.Seq, p.Ack, p.Flags, p.Window = api.UDP, 0, 0, 0, 0 },
			func(p *api.Packet) { p.Flow.Proto = api.TCP },
			func(p *api.Packet) { p.Seq ^= 1 << 31 },
			func(p *api.Packet) { p.Ack ^= 1 },
			func(p *api.Packet) { p.Flags ^= api.FIN },
			func(p *api.Packet) { p.Window ^= 1 << 15 },
			func(p *api.Packet) { p.Data = changed(p.Data, 0) },
			func(p *api.Packet) { p.Data = changed(p.Data, len(p.Data)-1) },
			func(p *api.Packet) { p.Data = turnedAbout(p.Data) },
		} {
			q := p
			change(&q)
			if packet.Same(p, q) || packet.Check(q) != nil {
				continue
			}
			for _, f := range []api.Flow{q.Flow, {Src: 1, SrcPort: 2, Dst: 3, DstPort: 4}} {
				f.Proto = q.Flow.Proto
				q.Flow = f
				if other := built(t, q); rewrite.Like(b, other) || rewrite.Like(other, b) {
					t.Errorf("Like behind change %d of %+v = true", i, p)
				}
			}
		}
	}
}

// changed is data with one bit of a byte turned.
func changed(data []byte, at int) []byte {
	data = slices.Clone(data)
	if len(data) > 0 {
		data[at] ^= 0x40
	}
	return data
}

// turnedAbout is data with two words changed about, so that no sum tells them apart.
func turnedAbout(data []byte) []byte {
	if len(data) < 4 {
		return data
	}
	return slices.Concat(data[2:4], data[:2], data[4:])
}

// P4.2

// wordsOf are the words of a flow's addresses, and those of its ports.
func wordsOf(f api.Flow) ([]uint16, []uint16) {
	return []uint16{uint16(f.Src >> 16), uint16(f.Src), uint16(f.Dst >> 16), uint16(f.Dst)}, []uint16{uint16(f.SrcPort), uint16(f.DstPort)}
}

// pairsOf are those of the words that changed, old and new.
func pairsOf(was, is []uint16) [][2]uint16 {
	var pairs [][2]uint16
	for i := range was {
		if was[i] != is[i] {
			pairs = append(pairs, [2]uint16{was[i], is[i]})
		}
	}
	return pairs
}

// checkSums holds an answer's sums against the changes of the old ones.
func checkSums(t *testing.T, old, b []byte) {
	t.Helper()
	was, _ := packet.Flow(old)
	is, ok := packet.Flow(b)
	if !ok {
		t.Fatalf("%.80x is no packet", b)
	}
	oldAddrs, oldPorts := wordsOf(was)
	addrs, ports := wordsOf(is)
	addrPairs, portPairs := pairsOf(oldAddrs, addrs), pairsOf(oldPorts, ports)
	if got, want := binary.BigEndian.Uint16(b[10:]), sum.Update(binary.BigEndian.Uint16(old[10:]), addrPairs...); got != want {
		t.Errorf("the header's sum is %x, want %x", got, want)
	}
	at := innerAt(old)
	want := sum.Update(binary.BigEndian.Uint16(old[at:]), append(addrPairs, portPairs...)...)
	if at == 26 && want == 0 {
		want = 0xffff
	}
	if got := binary.BigEndian.Uint16(b[at:]); got != want {
		t.Errorf("the inner sum of %.80x is %x, want %x", b, got, want)
	}
}

func TestSumsAreChanges(t *testing.T) {
	for _, p := range samples(t) {
		b := built(t, p)
		for _, f := range append(flowsFor(p.Flow.Proto), p.Flow) {
			source, dest, both := answers(t, b, f)
			checkSums(t, b, source)
			checkSums(t, b, dest)
			checkSums(t, b, both)
		}
	}
}

// A packet is rewritten by such a port that its inner sum is worked out as 0; then by each word that a sum can't tell from another one; then back.
func TestSumsOf0(t *testing.T) {
	for _, c := range []struct {
		text string
		want []byte
	}{{synHex, []byte{0, 0}}, {oddHex, []byte{0xff, 0xff}}} {
		b := row(t, c.text)
		at := innerAt(b)
		f, _ := packet.Flow(b)
		// The port becomes greater by the sum, which so becomes 0.
		f.SrcPort = (f.SrcPort + int(binary.BigEndian.Uint16(b[at:]))) % math.MaxUint16
		got, err := rewrite.Source(b, f.Src, f.SrcPort)
		if err != nil || !bytes.Equal(got[at:at+2], c.want) {
			t.Errorf("Source = %x, %v, want the sum %x", got, err, c.want)
		}
		if same, err := rewrite.Both(got, f); err != nil || !bytes.Equal(same, got) {
			t.Errorf("with its own flow it is %x, %v, want %x", same, err, got)
		}
		back, err := rewrite.Source(got, f.Src, int(binary.BigEndian.Uint16(b[20:])))
		answered(t, "back", back, err, b)
	}
}

func TestWordsThatSumsDontTellApart(t *testing.T) {
	for _, proto := range []int{api.TCP, api.UDP} {
		p := tuned(t, api.Packet{Ttl: 1, Flow: api.Flow{Proto: proto, Src: 1, Dst: 2}}, 0)
		zeros := built(t, p)
		p.Flow.SrcPort, p.Flow.DstPort = 65535, 65535
		p.Flow.Src |= 0xffff0000
		ones := built(t, p)
		at := innerAt(zeros)
		if !bytes.Equal(zeros[at:at+2], ones[at:at+2]) {
			t.Fatalf("sums %x and %x", zeros[at:at+2], ones[at:at+2])
		}
		got, err := rewrite.Both(zeros, p.Flow)
		answered(t, "ones in the place of noughts", got, err, ones)
		f, _ := packet.Flow(zeros)
		got, err = rewrite.Both(ones, f)
		answered(t, "noughts in the place of ones", got, err, zeros)
	}
}

// P4.3

func TestBackAndLike(t *testing.T) {
	for _, p := range samples(t) {
		b := built(t, p)
		for _, f := range append(flowsFor(p.Flow.Proto), p.Flow) {
			source, dest, both := answers(t, b, f)
			back, err := rewrite.Source(source, p.Flow.Src, p.Flow.SrcPort)
			answered(t, "Source and back", back, err, b)
			back, err = rewrite.Dest(dest, p.Flow.Dst, p.Flow.DstPort)
			answered(t, "Dest and back", back, err, b)
			back, err = rewrite.Both(both, p.Flow)
			answered(t, "Both and back", back, err, b)

			one, err := rewrite.Dest(source, f.Dst, f.DstPort)
			answered(t, "Source, then Dest", one, err, both)
			other, err := rewrite.Source(dest, f.Src, f.SrcPort)
			answered(t, "Dest, then Source", other, err, both)
			for _, answer := range [][]byte{source, dest, both, b} {
				if !rewrite.Like(answer, b) || !rewrite.Like(b, answer) {
					t.Errorf("%.80x and %.80x: Like = false", b, answer)
				}
			}
		}
	}
}

// P4.4

func TestWhatIsHandedInStays(t *testing.T) {
	for _, text := range []string{synHex, oddHex} {
		b := row(t, text)
		room := append(slices.Clone(b), "spare room"...)
		was := slices.Clone(room)
		head := room[:len(b)]
		f, _ := packet.Flow(b)
		g := api.Flow{Proto: f.Proto, Src: 1, SrcPort: 2, Dst: 3, DstPort: 4}
		other, err := rewrite.Both(b, g)
		if err != nil {
			t.Fatal(err)
		}
		for _, port := range []int{5, f.SrcPort, -1, 65536} {
			rewrite.Source(head, 1, port)
			rewrite.Dest(head, 1, port)
			g.DstPort = port
			rewrite.Both(head, g)
			rewrite.Both(head, f)
			rewrite.Like(head, other)
			rewrite.Like(other, head)
		}
		if !bytes.Equal(room, was) {
			t.Errorf("the bytes are %x, were %x", room, was)
		}
	}
}

func TestAnswersAreNewMemory(t *testing.T) {
	for _, text := range []string{synHex, oddHex} {
		want := row(t, text)
		f, _ := packet.Flow(want)
		for what, call := range map[string]func(b []byte) ([]byte, error){
			"Source": func(b []byte) ([]byte, error) { return rewrite.Source(b, f.Src, f.SrcPort) },
			"Dest":   func(b []byte) ([]byte, error) { return rewrite.Dest(b, f.Dst, f.DstPort) },
			"Both":   func(b []byte) ([]byte, error) { return rewrite.Both(b, f) },
		} {
			room := append(slices.Clone(want), "spare room"...)
			b := room[:len(want)]
			first, err := call(b)
			answered(t, what, first, err, want)
			second, err := call(b)
			answered(t, what+" again", second, err, want)
			clear(first[:cap(first)])
			if !bytes.Equal(second, want) || !bytes.Equal(b, want) || string(room[len(want):]) != "spare room" {
				t.Errorf("%s's answers share memory with one another, or with what was handed in", what)
			}
			clear(b)
			if !bytes.Equal(second, want) {
				t.Errorf("%s's answer changes with what was handed in", what)
			}
		}
	}
}
