package addr_test

import (
	"math"
	"strings"
	"testing"

	"towpath/addr"
	"towpath/api"
)

// stride is odd, so that steps by it reach addresses with all kinds of bytes.
const stride = 0x00010db3

var edgeNumbers = []int{math.MinInt, math.MinInt + 16, math.MinInt32, -65536, -2, -1, 1 << 16, 1 << 32, 1<<32 + 16, math.MaxInt - 16, math.MaxInt}

// P1.1

func TestText(t *testing.T) {
	for a, want := range map[api.Addr]string{
		0:          "0.0.0.0",
		1:          "0.0.0.1",
		0x0a000020: "10.0.0.32",
		0x01020304: "1.2.3.4",
		0x09630a64: "9.99.10.100",
		0xff000000: "255.0.0.0",
		0xffffffff: "255.255.255.255",
	} {
		if got := addr.Text(a); got != want {
			t.Errorf("Text(%#x) = %q, want %q", uint32(a), got, want)
		}
	}
}

func TestParseRefuses(t *testing.T) {
	for _, s := range []string{
		"", ".", "...", "....", "0", "10.0.0", "10.0.0.", ".10.0.0", "1..2.3", "1.2.3.4.", ".1.2.3.4", "1.2.3.4.5",
		"10.0.0.032", "00.0.0.0", "0.0.0.00", "01.2.3.4", "1.002.3.4",
		"256.0.0.1", "1.256.3.4", "1.2.3.256", "1.2.3.999", "1.2.3.1000", "1.2.3.4294967297", "0.0.0.18446744073709551616",
		"+1.2.3.4", "-1.2.3.4", "-0.0.0.0", "1.2.3.-4", "1.2.3.+4",
		" 1.2.3.4", "1.2.3.4 ", "1.2. 3.4", "1.2.3.4\n", "1.2.3.4\x00", "\x001.2.3.4",
		"0x1.2.3.4", "1_0.2.3.4", "a.b.c.d", "1,2,3,4", "1.2.3.٤", "1.2.3.\xff", "1:2:3:4",
		strings.Repeat("0", 20) + "1.2.3.4", strings.Repeat(".", 1<<20), strings.Repeat("1", 1<<20), "1.2.3." + strings.Repeat("0", 1<<20),
	} {
		a, err := addr.Parse(s)
		if a != 0 || err != api.ErrAddr {
			t.Errorf("Parse(%.40q) = %v, %v, want 0, ErrAddr", s, a, err)
		}
	}
}

func TestNode(t *testing.T) {
	first := map[int]int{api.Router: 1, api.Managers: 8, api.Muxes: 8, api.Hosts: 8}
	numbers := append([]int{}, edgeNumbers...)
	for n := -20; n <= 100; n++ {
		numbers = append(numbers, n)
	}
	for _, kind := range numbers {
		for _, place := range numbers {
			node, err := addr.Node(kind, place)
			if place >= 0 && place < first[kind] {
				if node != kind+place || err != nil {
					t.Errorf("Node(%d, %d) = %d, %v", kind, place, node, err)
				}
			} else if node != 0 || err != api.ErrNode {
				t.Errorf("Node(%d, %d) = %d, %v, want 0, ErrNode", kind, place, node, err)
			}
		}
	}
}

// kindOf is the kind of a node as the chapter numbers them; -1, if it is none.
func kindOf(node int) int {
	switch {
	case node == 0:
		return 0
	case node >= 16 && node <= 23:
		return 16
	case node >= 32 && node <= 39:
		return 32
	case node >= 48 && node <= 55:
		return 48
	}
	return -1
}

func TestKindAndOf(t *testing.T) {
	numbers := append([]int{}, edgeNumbers...)
	for n := -300; n <= 300; n++ {
		numbers = append(numbers, n)
	}
	for _, n := range numbers {
		kind, place, ok := addr.Kind(n)
		a, err := addr.Of(n)
		if want := kindOf(n); want < 0 {
			if kind != 0 || place != 0 || ok {
				t.Errorf("Kind(%d) = %d, %d, %v, want 0, 0, false", n, kind, place, ok)
			}
			if a != 0 || err != api.ErrNode {
				t.Errorf("Of(%d) = %v, %v, want 0, ErrNode", n, a, err)
			}
		} else {
			if kind != want || place != n-want || !ok {
				t.Errorf("Kind(%d) = %d, %d, %v, want %d, %d, true", n, kind, place, ok, want, n-want)
			}
			if a != 0x0a000000+api.Addr(n) || err != nil {
				t.Errorf("Of(%d) = %v, %v", n, a, err)
			}
		}
	}
}

func TestWhoOfNone(t *testing.T) {
	for _, s := range []string{
		"0.0.0.0", "0.0.0.16", "0.0.0.32", "10.0.0.1", "10.0.0.15", "10.0.0.24", "10.0.0.31", "10.0.0.40", "10.0.0.47", "10.0.0.56", "10.0.0.255",
		"10.0.1.0", "10.0.1.32", "10.1.0.0", "10.1.0.16", "9.255.255.255", "11.0.0.0", "11.0.0.16", "255.255.255.255", "138.0.0.32",
	} {
		if node, ok := addr.Who(parse(t, s)); node != 0 || ok {
			t.Errorf("Who(%s) = %d, %v, want 0, false", s, node, ok)
		}
	}
}

func TestDip(t *testing.T) {
	numbers := append([]int{}, edgeNumbers...)
	for n := -3; n <= 300; n++ {
		numbers = append(numbers, n)
	}
	for _, host := range numbers {
		for _, vm := range numbers {
			a, err := addr.Dip(host, vm)
			if host >= 0 && host <= 7 && vm >= 0 && vm <= 15 {
				if a != 0x0a010000+api.Addr(host*256+vm) || err != nil {
					t.Errorf("Dip(%d, %d) = %v, %v", host, vm, a, err)
				}
			} else if a != 0 || err != api.ErrNode {
				t.Errorf("Dip(%d, %d) = %v, %v, want 0, ErrNode", host, vm, a, err)
			}
		}
	}
}

func TestHome(t *testing.T) {
	if host, vm, ok := addr.Home(parse(t, "10.1.1.2")); host != 49 || vm != 2 || !ok {
		t.Errorf("Home(10.1.1.2) = %d, %d, %v", host, vm, ok)
	}
	if host, vm, ok := addr.Home(parse(t, "10.1.7.15")); host != 55 || vm != 15 || !ok {
		t.Errorf("Home(10.1.7.15) = %d, %d, %v", host, vm, ok)
	}
	for _, s := range []string{
		"0.0.0.0", "10.0.0.0", "10.0.0.48", "10.0.7.15", "10.1.0.16", "10.1.7.16", "10.1.0.255", "10.1.8.0", "10.1.8.15", "10.1.49.2", "10.1.255.0",
		"10.2.0.0", "9.1.0.0", "11.1.0.0", "1.10.0.0", "0.1.0.0", "255.255.255.255",
	} {
		if host, vm, ok := addr.Home(parse(t, s)); host != 0 || vm != 0 || ok {
			t.Errorf("Home(%s) = %d, %d, %v, want 0, 0, false", s, host, vm, ok)
		}
	}
}

func TestIsVip(t *testing.T) {
	for first := range 256 {
		want := first >= 1 && first <= 223 && first != 10 && first != 127
		for _, rest := range []api.Addr{0, 1, 0x010002, 0x0a0a0a, 0x7f7f7f, 0xffffff} {
			if a := api.Addr(first)<<24 | rest; addr.IsVip(a) != want {
				t.Errorf("IsVip(%s) = %v", addr.Text(a), !want)
			}
		}
	}
}

func TestCheck(t *testing.T) {
	good := api.Flow{Proto: api.TCP, Src: 1, SrcPort: 2, Dst: 3, DstPort: 4}
	protos := append([]int{0, 1, 4, 5, 6, 7, 16, 17, 18, 255, 256 + 6, 256 + 17, 1<<32 + 6}, edgeNumbers...)
	for _, proto := range protos {
		f := good
		f.Proto = proto
		checkFlow(t, f, proto == 6 || proto == 17)
	}
	ports := append([]int{0, 1, 80, 1023, 1024, 65534, 65535}, edgeNumbers...)
	for _, port := range ports {
		inForm := port >= 0 && port <= 65535
		for _, proto := range []int{api.TCP, api.UDP} {
			checkFlow(t, api.Flow{Proto: proto, SrcPort: port}, inForm)
			checkFlow(t, api.Flow{Proto: proto, DstPort: port}, inForm)
			checkFlow(t, api.Flow{Proto: proto, SrcPort: port, DstPort: 65535}, inForm)
		}
	}
	checkFlow(t, api.Flow{}, false)
	checkFlow(t, api.Flow{Proto: api.UDP, Src: math.MaxUint32, Dst: math.MaxUint32}, true)
}

func checkFlow(t *testing.T, f api.Flow, inForm bool) {
	t.Helper()
	var want error
	if !inForm {
		want = api.ErrForm
	}
	if err := addr.Check(f); err != want {
		t.Errorf("Check(%v) = %v, want %v", f, err, want)
	}
}

func TestReverse(t *testing.T) {
	f := api.Flow{Proto: 6, Src: 1, SrcPort: 2, Dst: 3, DstPort: 4}
	if got := addr.Reverse(f); got != (api.Flow{Proto: 6, Src: 3, SrcPort: 4, Dst: 1, DstPort: 2}) {
		t.Error(got)
	}
}

// The numbers were worked out from the chapter's words apart from this program.
func TestHash(t *testing.T) {
	for _, c := range []struct {
		seed uint64
		f    api.Flow
		want uint64
	}{
		{0, api.Flow{}, 0x519d34873a67805d},
		{0, api.Flow{Proto: 6, Src: 0x08080808, SrcPort: 5000, Dst: 0x01010101, DstPort: 80}, 0xf79cb691e235cf91},
		{1, api.Flow{Proto: 6, Src: 0x08080808, SrcPort: 5000, Dst: 0x01010101, DstPort: 80}, 0xd80bb291ee7125ac},
		{math.MaxUint64, api.Flow{Proto: 17, Src: 0xfffefdfc, SrcPort: 0x1234, Dst: 0x80706050, DstPort: 0xfedc}, 0x1d638f9cb1083c4d},
		{7, api.Flow{Proto: -1, Src: 1, SrcPort: -2, Dst: 2, DstPort: -65536}, 0xb3b58bfa966846d4},
		{7, api.Flow{Proto: 255, Src: 1, SrcPort: 65534, Dst: 2, DstPort: 0}, 0xb3b58bfa966846d4},
		{7, api.Flow{Proto: 262, Src: 0x0a010002, SrcPort: 3*65536 + 9, Dst: 0x02020202, DstPort: 1<<40 | 77}, 0xf24571c54e2bded3},
		{7, api.Flow{Proto: 6, Src: 0x0a010002, SrcPort: 9, Dst: 0x02020202, DstPort: 77}, 0xf24571c54e2bded3},
	} {
		if got := addr.Hash(c.seed, c.f); got != c.want {
			t.Errorf("Hash(%d, %v) = %#x, want %#x", c.seed, c.f, got, c.want)
		}
	}
}

func TestLess(t *testing.T) {
	// Each is less than those behind it, at every earlier field of the order.
	rows := []api.Flow{
		{Proto: math.MinInt, Src: 9, SrcPort: 9, Dst: 9, DstPort: 9},
		{Proto: -1, Src: 9, SrcPort: 9, Dst: 9, DstPort: 9},
		{},
		{Proto: 6, Src: 1, SrcPort: 9, Dst: 9, DstPort: 9},
		{Proto: 6, Src: 2, SrcPort: math.MinInt, Dst: 9, DstPort: 9},
		{Proto: 6, Src: 2, SrcPort: 1, Dst: 9, DstPort: 9},
		{Proto: 6, Src: 2, SrcPort: 2, Dst: 1, DstPort: 9},
		{Proto: 6, Src: 2, SrcPort: 2, Dst: 2, DstPort: -1},
		{Proto: 6, Src: 2, SrcPort: 2, Dst: 2, DstPort: 1},
		{Proto: 6, Src: 2, SrcPort: 2, Dst: 2, DstPort: math.MaxInt},
		{Proto: 6, Src: math.MaxUint32},
		{Proto: 17},
		{Proto: math.MaxInt},
	}
	for i, a := range rows {
		for j, b := range rows {
			if addr.Less(a, b) != (i < j) {
				t.Errorf("Less(%v, %v) = %v", a, b, i >= j)
			}
		}
	}
}

// P1.2

func TestParseOfTextIsTheAddress(t *testing.T) {
	for a := uint64(0); a <= math.MaxUint32; a += stride {
		if got := parse(t, addr.Text(api.Addr(a))); got != api.Addr(a) {
			t.Fatalf("Parse(Text(%#x)) = %#x", a, uint32(got))
		}
	}
}

func TestTextOfParseIsTheText(t *testing.T) {
	parts := []string{"", "0", "1", "9", "10", "00", "01", "99", "100", "199", "255", "256", "-1", "+1", " 1"}
	taken := 0
	for _, p := range parts {
		for _, q := range parts {
			for _, r := range parts {
				for _, s := range parts {
					text := strings.Join([]string{p, q, r, s}, ".")
					a, err := addr.Parse(text)
					if err != nil {
						continue
					}
					taken++
					if addr.Text(a) != text {
						t.Errorf("Text(Parse(%q)) = %q", text, addr.Text(a))
					}
				}
			}
		}
	}
	if taken != 8*8*8*8 {
		t.Errorf("Parse took %d of the texts, want %d", taken, 8*8*8*8)
	}
}

func TestWhoAndOf(t *testing.T) {
	nodes := 0
	for n := range 256 {
		a, err := addr.Of(n)
		if err != nil {
			continue
		}
		nodes++
		if back, ok := addr.Who(a); back != n || !ok {
			t.Errorf("Who(Of(%d)) = %d, %v", n, back, ok)
		}
	}
	if nodes != 25 {
		t.Errorf("%d nodes, want 25", nodes)
	}
	everyNear(func(a api.Addr) {
		if n, ok := addr.Who(a); ok {
			if back, err := addr.Of(n); back != a || err != nil {
				t.Errorf("Of(Who(%s)) = %s, %v", addr.Text(a), addr.Text(back), err)
			}
		}
	})
}

func TestHomeAndDip(t *testing.T) {
	for place := range 8 {
		for vm := range 16 {
			a, err := addr.Dip(place, vm)
			if err != nil {
				t.Fatal(place, vm, err)
			}
			if host, v, ok := addr.Home(a); host != api.Hosts+place || v != vm || !ok {
				t.Errorf("Home(Dip(%d, %d)) = %d, %d, %v", place, vm, host, v, ok)
			}
		}
	}
	dips := 0
	everyNear(func(a api.Addr) {
		host, vm, ok := addr.Home(a)
		if !ok {
			return
		}
		dips++
		kind, place, isNode := addr.Kind(host)
		if back, err := addr.Dip(place, vm); kind != api.Hosts || !isNode || back != a || err != nil {
			t.Errorf("Dip of Home(%s) = %s, %v", addr.Text(a), addr.Text(back), err)
		}
	})
	if dips != 8*16 {
		t.Errorf("%d dips, want %d", dips, 8*16)
	}
}

func TestKindAndNode(t *testing.T) {
	for _, kind := range []int{api.Router, api.Managers, api.Muxes, api.Hosts} {
		for place := range 10 {
			node, err := addr.Node(kind, place)
			if err != nil {
				continue
			}
			if k, p, ok := addr.Kind(node); k != kind || p != place || !ok {
				t.Errorf("Kind(Node(%d, %d)) = %d, %d, %v", kind, place, k, p, ok)
			}
		}
	}
	for node := -100; node <= 100; node++ {
		if kind, place, ok := addr.Kind(node); ok {
			if back, err := addr.Node(kind, place); back != node || err != nil {
				t.Errorf("Node(Kind(%d)) = %d, %v", node, back, err)
			}
		}
	}
}

// P1.3

func TestLessIsAnOrder(t *testing.T) {
	flows := someFlows()
	for _, a := range flows {
		for _, b := range flows {
			ab, ba := addr.Less(a, b), addr.Less(b, a)
			if ab && ba || (a == b) != (!ab && !ba) {
				t.Fatalf("%v and %v: Less %v, %v", a, b, ab, ba)
			}
			if !ab {
				continue
			}
			for _, c := range flows {
				if addr.Less(b, c) && !addr.Less(a, c) {
					t.Fatalf("%v, %v, %v: Less isn't handed on", a, b, c)
				}
			}
		}
	}
}

func TestReverseTwiceIsTheFlow(t *testing.T) {
	for _, f := range someFlows() {
		back := addr.Reverse(addr.Reverse(f))
		if back != f {
			t.Errorf("Reverse twice of %v is %v", f, back)
		}
	}
}

func TestHashHangsOnFlowAndSeedAlone(t *testing.T) {
	flows := someFlows()
	seeds := []uint64{0, 1, 2, 1 << 63, math.MaxUint64}
	var first []uint64
	for _, seed := range seeds {
		for _, f := range flows {
			first = append(first, addr.Hash(seed, f))
		}
	}
	// Gone over the other way round, so that what was asked before differs.
	for i := len(first) - 1; i >= 0; i-- {
		if got := addr.Hash(seeds[i/len(flows)], flows[i%len(flows)]); got != first[i] {
			t.Fatalf("Hash of %v changed", flows[i%len(flows)])
		}
	}
}

func TestHashTellsFieldsApart(t *testing.T) {
	f := api.Flow{Proto: 6, Src: 0x01020304, SrcPort: 0x0506, Dst: 0x0708090a, DstPort: 0x0b0c}
	seen := map[uint64]bool{addr.Hash(3, f): true, addr.Hash(4, f): true, addr.Hash(3, addr.Reverse(f)): true}
	count := 3
	add := func(g api.Flow) {
		seen[addr.Hash(3, g)] = true
		count++
	}
	for bit := range 32 {
		g := f
		g.Src ^= 1 << bit
		add(g)
		g = f
		g.Dst ^= 1 << bit
		add(g)
	}
	for bit := range 16 {
		g := f
		g.SrcPort ^= 1 << bit
		add(g)
		g = f
		g.DstPort ^= 1 << bit
		add(g)
	}
	for bit := range 8 {
		g := f
		g.Proto ^= 1 << bit
		add(g)
	}
	if len(seen) != count {
		t.Errorf("%d numbers of %d flows", len(seen), count)
	}
}

func parse(t *testing.T, s string) api.Addr {
	t.Helper()
	a, err := addr.Parse(s)
	if err != nil {
		t.Fatalf("Parse(%q): %v", s, err)
	}
	return a
}

// everyNear goes over all addresses from 9.255.0.0 to 10.2.255.255, and over some of all others.
func everyNear(look func(api.Addr)) {
	for a := api.Addr(0x09ff0000); a < 0x0a030000; a++ {
		look(a)
	}
	for a := uint64(0); a <= math.MaxUint32; a += stride {
		if b := api.Addr(a); b < 0x09ff0000 || b >= 0x0a030000 {
			look(b)
		}
	}
}

// someFlows is flows in form and out of it, each once, that differ in each field and in several.
func someFlows() []api.Flow {
	var flows []api.Flow
	for _, proto := range []int{math.MinInt, 6, 17} {
		for _, src := range []api.Addr{0, math.MaxUint32} {
			for _, srcPort := range []int{-1, 80, math.MaxInt} {
				for _, dst := range []api.Addr{1, 0x0a010002} {
					for _, dstPort := range []int{0, 65535, 65536} {
						flows = append(flows, api.Flow{Proto: proto, Src: src, SrcPort: srcPort, Dst: dst, DstPort: dstPort})
					}
				}
			}
		}
	}
	return flows
}
