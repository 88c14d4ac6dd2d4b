package vote_test

import (
	"bytes"
	"encoding/binary"
	"errors"
	"fmt"
	"math"
	"math/rand/v2"
	"slices"
	"testing"

	"towpath/api"
	"towpath/stable"
	"towpath/vote"
)

const (
	vip api.Addr = 0x01010101
	dip api.Addr = 0x0a010002

	lastTime = 1 << 40
)

var (
	// These are ahead of what is allowed, behind it, and between.
	notManagers = []int{-1, 0, 1, 15, 24, 25, 31, 32, 39, 48, 55, 56, 255, 1<<32 + 16, -16, math.MaxInt, math.MinInt, math.MinInt + 16}
	notTimes    = []int{-1, -2, lastTime + 1, lastTime + 2, 2 * lastTime, 1 << 62, math.MaxInt, math.MinInt, math.MinInt + 1}
	notVips     = []api.Addr{0, 1, 0x00ffffff, 0x0a000000, 0x0a000010, dip, 0x0affffff, 0x7f000000, 0x7f000001, 0x7fffffff, 0xe0000000, math.MaxUint32}
	notDips     = []api.Addr{0, 1, vip, 0x0a000010, 0x0a00ffff, 0x0a010010, 0x0a0100ff, 0x0a010710, 0x0a010800, 0x0a020000, 0x0b010002, math.MaxUint32}
	allVips     = []api.Addr{0x01000000, vip, 0x09ffffff, 0x0b000000, 0x7effffff, 0x80000000, 0xdfffffff}
	times       = []int{0, 1, 2, 255, 256, 1 << 32, lastTime - 1, lastTime}

	// notBallots all have a fault in one of the two.
	notBallots = []api.Ballot{{}, ballot(0, 16), ballot(-1, 16), ballot(lastTime+1, 17), ballot(1<<62, 16), ballot(math.MaxInt, 16), ballot(math.MinInt, 23), ballot(1, 0), ballot(1, 15), ballot(1, 24), ballot(1, 32), ballot(1, 48), ballot(1, -16), ballot(9, 1<<32+16), ballot(9, math.MaxInt), ballot(9, math.MinInt)}
)

func ballot(n, node int) api.Ballot {
	return api.Ballot{N: n, Node: node}
}

func end(dip api.Addr, port, weight int) api.End {
	return api.End{Dip: dip, Port: port, Weight: weight}
}

func generator(seed uint64) *rand.Rand {
	return rand.New(rand.NewPCG(seed, 14))
}

// ends is so many ends in form.
func ends(n int) []api.End {
	var list []api.End
	for i := range n {
		list = append(list, api.End{Dip: 0x0a010000 + api.Addr(i/16)<<8 + api.Addr(i%16), Port: 8080 + i, Weight: 1 + i%16})
	}
	return list
}

func service(n int) api.Command {
	return api.Command{Node: 16, Kind: api.CService, Service: api.Service{Vip: vip, Proto: api.TCP, Port: 80, Ends: ends(n)}}
}

// sayings is a command of each kind, of each way to say it.
func sayings() []api.Command {
	udp := service(1)
	udp.Service.Proto = api.UDP
	return []api.Command{
		service(0),
		service(2),
		udp,
		{Node: 16, Kind: api.CSnat, Dip: dip, Vip: vip, Up: true},
		{Node: 17, Kind: api.CSnat, Dip: dip},
		{Node: 18, Kind: api.CHealth, Dip: dip, Up: true},
		{Node: 19, Kind: api.CHealth, Dip: dip},
		{Node: 20, Kind: api.CLease, Dip: dip},
	}
}

// many is a log of so many commands.
func many(n int) []api.Command {
	var log []api.Command
	for i := range n {
		c := sayings()[i%8]
		c.Node, c.Boot, c.Seq, c.Time = 16+i%3, i/100, i/3, 7*i
		log = append(log, c)
	}
	return log
}

// numbers is a log as numbers.
func numbers(log ...api.Command) []int {
	nums := []int{len(log)}
	for _, c := range log {
		nums = append(nums, c.Node, c.Boot, c.Seq, c.Time, c.Kind, int(c.Service.Vip), c.Service.Proto, c.Service.Port, len(c.Service.Ends))
		for _, e := range c.Service.Ends {
			nums = append(nums, int(e.Dip), e.Port, e.Weight)
		}
		nums = append(nums, int(c.Dip), int(c.Vip), map[bool]int{true: 1}[c.Up])
	}
	return nums
}

func row(nums ...int) []byte {
	var b []byte
	for _, n := range nums {
		b = binary.BigEndian.AppendUint64(b, uint64(n))
	}
	return b
}

func rowOf(log ...api.Command) []byte {
	return row(numbers(log...)...)
}

// alike holds logs against each other by their numbers.
func alike(a, b []api.Command) bool {
	return slices.Equal(numbers(a...), numbers(b...))
}

// short is what a failing test tells of a value.
func short(value any) string {
	return fmt.Sprintf("%.300s", fmt.Sprint(value))
}

// taken and refused ask all functions that look at a log's form.
func taken(t *testing.T, log ...api.Command) {
	t.Helper()
	if err := vote.CheckLog(log); err != nil {
		t.Fatalf("CheckLog(%s) = %v", short(log), err)
	}
	for _, c := range log {
		if err := vote.Check(c); err != nil {
			t.Fatalf("Check(%v) = %v", c, err)
		}
	}
	if b, err := vote.Write(log); err != nil || !bytes.Equal(b, rowOf(log...)) {
		t.Fatalf("Write(%s) = %s, %v, want %s", short(log), short(b), err, short(rowOf(log...)))
	}
	if back, err := vote.Read(rowOf(log...)); err != nil || !alike(back, log) {
		t.Fatalf("Read(%s) = %s, %v, want %s", short(rowOf(log...)), short(back), err, short(log))
	}
	v := opened(t, room(t), 16)
	accepts(t, v, ballot(1, 16), log...)
}

func refused(t *testing.T, log ...api.Command) {
	t.Helper()
	if err := vote.CheckLog(log); !errors.Is(err, api.ErrForm) {
		t.Fatalf("CheckLog(%s) = %v, want %v", short(log), err, api.ErrForm)
	}
	if b, err := vote.Write(log); b != nil || !errors.Is(err, api.ErrForm) {
		t.Fatalf("Write(%s) = %s, %v, want nil, %v", short(log), short(b), err, api.ErrForm)
	}
	unread(t, rowOf(log...))
	v := opened(t, room(t), 16)
	acceptFails(t, v, api.ErrForm, ballot(1, 16), log...)
	holds(t, v, api.Ballot{}, api.Ballot{})
}

func unread(t *testing.T, b []byte) {
	t.Helper()
	if log, err := vote.Read(b); log != nil || !errors.Is(err, api.ErrMessage) {
		t.Fatalf("Read(%s) = %s, %v, want nil, %v", short(b), short(log), err, api.ErrMessage)
	}
}

// bad is a command that isn't in form.
func bad(t *testing.T, c api.Command) {
	t.Helper()
	if err := vote.Check(c); !errors.Is(err, api.ErrForm) {
		t.Fatalf("Check(%+v) = %v, want %v", c, err, api.ErrForm)
	}
	refused(t, c)
}

// sized is an empty store of a size, and room one with enough of it.
func sized(t *testing.T, size int) *stable.Store {
	t.Helper()
	s, err := stable.New(size)
	if err != nil {
		t.Fatal(err)
	}
	return s
}

func room(t *testing.T) *stable.Store {
	t.Helper()
	return sized(t, 1<<20)
}

func put(t *testing.T, s *stable.Store, key string, parts ...[]byte) {
	t.Helper()
	if err := s.Put(key, parts...); err != nil {
		t.Fatalf("Put(%q, %s) = %v", key, short(parts), err)
	}
}

func opened(t *testing.T, s *stable.Store, node int) *vote.Voter {
	t.Helper()
	v, err := vote.Open(s, node)
	if v == nil || err != nil {
		t.Fatalf("Open(_, %d) = %v, %v", node, v, err)
	}
	return v
}

func notOpened(t *testing.T, s *stable.Store, node int, want error) {
	t.Helper()
	if v, err := vote.Open(s, node); v != nil || !errors.Is(err, want) {
		t.Fatalf("Open(_, %d) = %v, %v, want nil, %v", node, v, err, want)
	}
}

func holds(t *testing.T, v *vote.Voter, promise, accepted api.Ballot, log ...api.Command) {
	t.Helper()
	if got := v.Promised(); got != promise {
		t.Fatalf("Promised() = %v, want %v", got, promise)
	}
	if got, gotLog := v.Accepted(); got != accepted || !alike(gotLog, log) {
		t.Fatalf("Accepted() = %v, %s, want %v, %s", got, short(gotLog), accepted, short(log))
	}
}

func prepares(t *testing.T, v *vote.Voter, b, accepted api.Ballot, log ...api.Command) {
	t.Helper()
	if got, gotLog, err := v.Prepare(b); got != accepted || !alike(gotLog, log) || err != nil {
		t.Fatalf("Prepare(%v) = %v, %s, %v, want %v, %s, nil", b, got, short(gotLog), err, accepted, short(log))
	}
	holds(t, v, b, accepted, log...)
}

func prepareFails(t *testing.T, v *vote.Voter, want error, b api.Ballot) {
	t.Helper()
	if got, log, err := v.Prepare(b); got != (api.Ballot{}) || log != nil || !errors.Is(err, want) {
		t.Fatalf("Prepare(%v) = %v, %s, %v, want %v", b, got, short(log), err, want)
	}
}

func accepts(t *testing.T, v *vote.Voter, b api.Ballot, log ...api.Command) {
	t.Helper()
	if err := v.Accept(b, log); err != nil {
		t.Fatalf("Accept(%v, %s) = %v", b, short(log), err)
	}
	holds(t, v, b, b, log...)
}

func acceptFails(t *testing.T, v *vote.Voter, want error, b api.Ballot, log ...api.Command) {
	t.Helper()
	if err := v.Accept(b, log); !errors.Is(err, want) {
		t.Fatalf("Accept(%v, %s) = %v, want %v", b, short(log), err, want)
	}
}

// P14.1

func TestExample(t *testing.T) {
	v := opened(t, room(t), 16)
	c := api.Command{Node: 16, Seq: 1, Kind: api.CHealth, Dip: dip}
	holds(t, v, api.Ballot{}, api.Ballot{})
	prepares(t, v, ballot(2, 16), api.Ballot{})
	prepareFails(t, v, api.ErrBallot, ballot(1, 17))
	accepts(t, v, ballot(2, 16), c)
	prepares(t, v, ballot(3, 17), ballot(2, 16), c)
	if got := v.Claim(ballot(5, 18)); got != (ballot(6, 16)) {
		t.Errorf("Claim({5 18}) = %v", got)
	}
}

func TestCheckTakesAllSayings(t *testing.T) {
	for _, c := range sayings() {
		taken(t, c)
		for node := 16; node <= 23; node++ {
			c.Node = node
			taken(t, c)
		}
		for _, time := range times {
			for _, field := range []*int{&c.Boot, &c.Seq, &c.Time} {
				old := *field
				*field = time
				taken(t, c)
				*field = old
			}
		}
		c.Boot, c.Seq, c.Time = lastTime, lastTime, lastTime
		taken(t, c)
	}
}

func TestCheckRefusesWhatGivesACommandWrongly(t *testing.T) {
	for _, good := range sayings() {
		for _, node := range notManagers {
			c := good
			c.Node = node
			bad(t, c)
		}
		for _, time := range notTimes {
			c := good
			c.Boot = time
			bad(t, c)
			c = good
			c.Seq = time
			bad(t, c)
			c = good
			c.Time = time
			bad(t, c)
		}
		for _, kind := range []int{0, -1, -2, 5, 6, 8, 1<<32 + 1, 1<<32 + 4, 257, math.MaxInt, math.MinInt, math.MinInt + 3} {
			c := good
			c.Kind = kind
			bad(t, c)
		}
	}
	bad(t, api.Command{})
	bad(t, api.Command{Node: 16})
}

func TestServices(t *testing.T) {
	change := func(n int, do func(c *api.Command)) api.Command {
		c := service(n)
		do(&c)
		return c
	}
	for n := range 65 {
		taken(t, service(n))
	}
	bad(t, service(65))
	bad(t, service(128))
	taken(t, change(0, func(c *api.Command) { c.Service.Ends = []api.End{} }))
	for _, a := range allVips {
		taken(t, change(1, func(c *api.Command) { c.Service.Vip = a }))
	}
	for _, a := range notVips {
		bad(t, change(1, func(c *api.Command) { c.Service.Vip = a }))
		bad(t, change(0, func(c *api.Command) { c.Service.Vip = a }))
	}
	for proto := -20; proto <= 300; proto++ {
		c := change(1, func(c *api.Command) { c.Service.Proto = proto })
		if proto == 6 || proto == 17 {
			taken(t, c)
		} else {
			bad(t, c)
		}
	}
	for _, port := range []int{1, 2, 80, 1022, 1023} {
		taken(t, change(2, func(c *api.Command) { c.Service.Port = port }))
	}
	for _, port := range []int{0, -1, 1024, 1025, 8080, 65535, 65536, 65536 + 80, 1<<32 + 80, math.MaxInt, math.MinInt} {
		bad(t, change(2, func(c *api.Command) { c.Service.Port = port }))
		bad(t, change(0, func(c *api.Command) { c.Service.Port = port }))
	}
	for _, e := range []api.End{end(dip, 0, 1), end(dip, 65535, 16), end(0x0a010000, 1, 2), end(0x0a01070f, 1, 2)} {
		taken(t, change(0, func(c *api.Command) { c.Service.Ends = []api.End{e} }))
	}
	for _, e := range []api.End{{}, end(dip, -1, 1), end(dip, 65536, 1), end(dip, 80, 0), end(dip, 80, -1), end(dip, 80, 17), end(vip, 80, 1), end(0x0a010010, 80, 1), end(0x0a010800, 80, 1)} {
		bad(t, change(0, func(c *api.Command) { c.Service.Ends = []api.End{e} }))
		bad(t, change(0, func(c *api.Command) { c.Service.Ends = []api.End{end(0x0a010701, 80, 1), e} }))
	}
	bad(t, change(0, func(c *api.Command) { c.Service.Ends = []api.End{end(dip, 80, 1), end(dip, 81, 2)} }))
	for _, n := range []int{0, 2} {
		for _, a := range []api.Addr{1, dip, vip} {
			bad(t, change(n, func(c *api.Command) { c.Dip = a }))
			bad(t, change(n, func(c *api.Command) { c.Vip = a }))
		}
		bad(t, change(n, func(c *api.Command) { c.Up = true }))
	}
}

// services is services in which something is said.
func services() []api.Service {
	return []api.Service{{Vip: vip}, {Vip: 1}, {Proto: 6}, {Proto: -1}, {Port: 80}, {Port: -1}, {Ends: ends(1)}, {Ends: make([]api.End, 1)}, service(0).Service, service(2).Service}
}

func TestCommandsOfMachines(t *testing.T) {
	for _, good := range sayings()[3:] {
		for host := range 8 {
			for vm := range 16 {
				good.Dip = 0x0a010000 + api.Addr(host<<8+vm)
				taken(t, good)
			}
		}
		for _, a := range notDips {
			c := good
			c.Dip = a
			bad(t, c)
		}
		for _, s := range services() {
			c := good
			c.Service = s
			bad(t, c)
		}
		good.Service.Ends = []api.End{}
		taken(t, good)
	}
}

func TestVipsAndUpOfMachines(t *testing.T) {
	for _, a := range allVips {
		taken(t, api.Command{Node: 16, Kind: api.CSnat, Dip: dip, Vip: a, Up: true})
		bad(t, api.Command{Node: 16, Kind: api.CSnat, Dip: dip, Vip: a})
	}
	for _, a := range notVips {
		bad(t, api.Command{Node: 16, Kind: api.CSnat, Dip: dip, Vip: a, Up: true})
	}
	for _, a := range slices.Concat(allVips, notVips[1:]) {
		bad(t, api.Command{Node: 16, Kind: api.CSnat, Dip: dip, Vip: a})
		bad(t, api.Command{Node: 16, Kind: api.CHealth, Dip: dip, Vip: a})
		bad(t, api.Command{Node: 16, Kind: api.CHealth, Dip: dip, Vip: a, Up: true})
		bad(t, api.Command{Node: 16, Kind: api.CLease, Dip: dip, Vip: a})
	}
	bad(t, api.Command{Node: 16, Kind: api.CLease, Dip: dip, Up: true})
	bad(t, api.Command{Node: 16, Kind: api.CLease, Dip: dip, Vip: vip, Up: true})
}

func TestLogsOfAllLengths(t *testing.T) {
	taken(t)
	taken(t, []api.Command{}...)
	for n := 1; n <= 256; n++ {
		taken(t, many(n)...)
	}
	for _, n := range []int{257, 258, 300, 512, 1000} {
		refused(t, many(n)...)
	}
}

func TestNoTwoCommandsOfOneGiver(t *testing.T) {
	for _, n := range []int{2, 3, 30, 256} {
		for _, pick := range [][2]int{{0, 1}, {0, n - 1}, {n - 2, n - 1}, {n / 2, n - 1}} {
			if pick[0] == pick[1] {
				continue
			}
			log := many(n)
			one, other := log[pick[0]], &log[pick[1]]
			other.Node, other.Boot, other.Seq = one.Node, one.Boot, one.Seq
			refused(t, log...)
			log[pick[1]] = one
			refused(t, log...)
		}
	}
	for _, c := range sayings() {
		refused(t, c, c)
		node, boot, seq := c, c, c
		node.Node, boot.Boot, seq.Seq = 23, 5, 5
		taken(t, c, node, boot, seq)
		time := c
		time.Time = 5
		refused(t, c, time)
	}
	crossed := []api.Command{service(0), service(0), service(0), service(0)}
	crossed[1].Boot, crossed[1].Seq = 1, 2
	crossed[2].Boot, crossed[2].Seq = 2, 1
	crossed[3].Node, crossed[3].Boot, crossed[3].Seq = 17, 1, 2
	taken(t, crossed...)
}

func TestOneBadCommandIsEnough(t *testing.T) {
	for _, at := range []int{0, 1, 100, 254, 255} {
		log := many(256)
		log[at].Time = -1
		refused(t, log...)
	}
}

// The bytes were written down by hand.
func TestBytesOfALog(t *testing.T) {
	log := []api.Command{
		{Node: 17, Boot: 1, Seq: 258, Time: lastTime, Kind: api.CService, Service: api.Service{Vip: 0xdf020304, Proto: api.UDP, Port: 1023, Ends: []api.End{end(0x0a01070f, 65535, 16), end(0x0a010000, 0, 1)}}},
		{Node: 23, Kind: api.CSnat, Dip: 0x0a010203, Vip: 0xc0000001, Up: true},
	}
	want := "" +
		"\x00\x00\x00\x00\x00\x00\x00\x02" +
		"\x00\x00\x00\x00\x00\x00\x00\x11" + "\x00\x00\x00\x00\x00\x00\x00\x01" + "\x00\x00\x00\x00\x00\x00\x01\x02" + "\x00\x00\x01\x00\x00\x00\x00\x00" +
		"\x00\x00\x00\x00\x00\x00\x00\x01" +
		"\x00\x00\x00\x00\xdf\x02\x03\x04" + "\x00\x00\x00\x00\x00\x00\x00\x11" + "\x00\x00\x00\x00\x00\x00\x03\xff" + "\x00\x00\x00\x00\x00\x00\x00\x02" +
		"\x00\x00\x00\x00\x0a\x01\x07\x0f" + "\x00\x00\x00\x00\x00\x00\xff\xff" + "\x00\x00\x00\x00\x00\x00\x00\x10" +
		"\x00\x00\x00\x00\x0a\x01\x00\x00" + "\x00\x00\x00\x00\x00\x00\x00\x00" + "\x00\x00\x00\x00\x00\x00\x00\x01" +
		"\x00\x00\x00\x00\x00\x00\x00\x00" + "\x00\x00\x00\x00\x00\x00\x00\x00" + "\x00\x00\x00\x00\x00\x00\x00\x00" +
		"\x00\x00\x00\x00\x00\x00\x00\x17" + "\x00\x00\x00\x00\x00\x00\x00\x00" + "\x00\x00\x00\x00\x00\x00\x00\x00" + "\x00\x00\x00\x00\x00\x00\x00\x00" +
		"\x00\x00\x00\x00\x00\x00\x00\x02" +
		"\x00\x00\x00\x00\x00\x00\x00\x00" + "\x00\x00\x00\x00\x00\x00\x00\x00" + "\x00\x00\x00\x00\x00\x00\x00\x00" + "\x00\x00\x00\x00\x00\x00\x00\x00" +
		"\x00\x00\x00\x00\x0a\x01\x02\x03" + "\x00\x00\x00\x00\xc0\x00\x00\x01" + "\x00\x00\x00\x00\x00\x00\x00\x01"
	if b, err := vote.Write(log); string(b) != want || err != nil {
		t.Errorf("Write(%v) = %q, %v, want %q", log, b, err, want)
	}
	if got, err := vote.Read([]byte(want)); err != nil || !alike(got, log) {
		t.Errorf("Read(%q) = %v, %v, want %v", want, got, err, log)
	}
	if b, err := vote.Write(nil); string(b) != "\x00\x00\x00\x00\x00\x00\x00\x00" || err != nil {
		t.Errorf("Write(nil) = %q, %v", b, err)
	}
	if got, err := vote.Read(make([]byte, 8)); len(got) > 0 || err != nil {
		t.Errorf("Read of an empty log = %v, %v", got, err)
	}
}

func TestReadRefusesBytesThatAreCutOrGoOn(t *testing.T) {
	unread(t, nil)
	for _, log := range [][]api.Command{nil, {service(2)}, many(9)} {
		b := rowOf(log...)
		for n := range len(b) {
			unread(t, b[:n])
			// Eight noughts at the end are the bytes of an empty log.
			if end := b[len(b)-n:]; !bytes.Equal(end, rowOf()) {
				unread(t, end)
			}
		}
		for _, more := range [][]byte{{0}, {1}, make([]byte, 7), make([]byte, 8), row(1), make([]byte, 96), make([]byte, 1<<16), b} {
			unread(t, slices.Concat(b, more))
			unread(t, slices.Concat(more, b))
		}
		for at := 0; at < len(b); at += 8 {
			unread(t, slices.Concat(b[:at], make([]byte, 4), b[at:]))
			unread(t, slices.Concat(b[:at+3], b[at+4:]))
			if at+16 < len(b) {
				unread(t, slices.Concat(b[:at], b[at+8:]))
			}
		}
	}
}

func TestReadRefusesOtherCounts(t *testing.T) {
	for _, count := range []int{-1, -3, 1, 2, 4, 5, 255, 256, 257, 1 << 31, 1<<32 + 3, 1 << 62, math.MaxInt, math.MinInt, math.MinInt + 3} {
		for _, log := range [][]api.Command{{}, {service(0)}, {service(2)}, {service(2), service(0)}} {
			nums := numbers(log...)
			if nums[0] != count {
				nums[0] = count
				unread(t, row(nums...))
			}
			if len(log) > 0 && len(log[0].Service.Ends) != count {
				nums[0], nums[9] = len(log), count
				unread(t, row(nums...))
			}
		}
	}
	unread(t, row(slices.Concat([]int{257}, numbers(many(257)...)[1:])...))
	unread(t, row(slices.Concat([]int{256}, numbers(many(257)...)[1:])...))
}

// Addresses have 32 bits, and Up is 1 or 0: what lies above is no log's.
func TestReadRefusesNumbersThatNoFieldHolds(t *testing.T) {
	log := []api.Command{service(2), sayings()[3], sayings()[6]}
	log[1].Seq = 1
	nums := numbers(log...)
	addresses := []int{6, 10, 13, 16, 17, 1 + 18 + 9, 1 + 18 + 10, 1 + 18 + 12 + 9}
	for _, at := range addresses {
		for _, more := range []int{1 << 32, 1 << 33, 1 << 40, 1 << 62, math.MinInt, -1 << 32} {
			other := slices.Clone(nums)
			other[at] += more
			unread(t, row(other...))
		}
	}
	for _, at := range []int{18, 1 + 18 + 11, 1 + 18 + 12 + 11} {
		for _, up := range []int{2, 3, -1, 255, 256, 257, 1 << 32, 1<<32 + 1, math.MaxInt, math.MinInt, math.MinInt + 1} {
			other := slices.Clone(nums)
			other[at] = up
			unread(t, row(other...))
		}
	}
	taken(t, log...)
}

func TestLess(t *testing.T) {
	rising := []api.Ballot{ballot(math.MinInt, math.MaxInt), ballot(-1, 99), ballot(0, -1), ballot(0, 0), ballot(0, 16), ballot(1, math.MinInt), ballot(1, 15), ballot(1, 16), ballot(1, 17), ballot(1, 23), ballot(1, math.MaxInt), ballot(2, 0), ballot(2, 16), ballot(256, 1), ballot(lastTime, 16), ballot(lastTime, 23), ballot(math.MaxInt, math.MinInt), ballot(math.MaxInt, math.MaxInt)}
	for i, a := range rising {
		for j, b := range rising {
			if got := vote.Less(a, b); got != (i < j) {
				t.Errorf("Less(%v, %v) = %v", a, b, got)
			}
		}
	}
}

func TestSame(t *testing.T) {
	all := []api.Command{{}, service(0), service(1), service(2), service(3)}
	add := func(from api.Command, do func(c *api.Command)) {
		from.Service.Ends = slices.Clone(from.Service.Ends)
		do(&from)
		all = append(all, from)
	}
	for _, c := range []api.Command{{}, service(2)} {
		add(c, func(c *api.Command) { c.Node = 99 })
		add(c, func(c *api.Command) { c.Boot = 99 })
		add(c, func(c *api.Command) { c.Seq = 99 })
		add(c, func(c *api.Command) { c.Time = 99 })
		add(c, func(c *api.Command) { c.Kind = 99 })
		add(c, func(c *api.Command) { c.Service.Vip = 99 })
		add(c, func(c *api.Command) { c.Service.Proto = 99 })
		add(c, func(c *api.Command) { c.Service.Port = 99 })
		add(c, func(c *api.Command) { c.Service.Ends = ends(4) })
		add(c, func(c *api.Command) { c.Dip = 99 })
		add(c, func(c *api.Command) { c.Vip = 99 })
		add(c, func(c *api.Command) { c.Up = true })
	}
	for at := range 2 {
		add(service(2), func(c *api.Command) { c.Service.Ends[at].Dip = 99 })
		add(service(2), func(c *api.Command) { c.Service.Ends[at].Port = 99 })
		add(service(2), func(c *api.Command) { c.Service.Ends[at].Weight = 99 })
	}
	add(service(2), func(c *api.Command) { slices.Reverse(c.Service.Ends) })
	for i, a := range all {
		for j, b := range all {
			b.Service.Ends = slices.Clone(b.Service.Ends)
			for _, ahead := range [][]api.Command{nil, {{}}, many(3)} {
				one, other := slices.Concat(ahead, []api.Command{a}, ahead), slices.Concat(ahead, []api.Command{b}, ahead)
				if got := vote.Same(one, other); got != (i == j) {
					t.Errorf("Same(%v, %v) = %v", one, other, got)
				}
			}
		}
	}
}

func TestSameOfOtherLengths(t *testing.T) {
	for n := range 6 {
		for m := range 6 {
			if got := vote.Same(many(n), many(m)); got != (n == m) {
				t.Errorf("Same of %d and %d = %v", n, m, got)
			}
		}
	}
	if !vote.Same(nil, []api.Command{}) || !vote.Same([]api.Command{}, nil) || !vote.Same(nil, nil) {
		t.Error("no commands are no commands")
	}
	a, b := []api.Command{{}}, []api.Command{{}}
	a[0].Service.Ends = []api.End{}
	if !vote.Same(a, b) || !vote.Same(b, a) {
		t.Error("no ends are no ends")
	}
	turned := many(3)
	slices.Reverse(turned)
	if vote.Same(many(3), turned) || !vote.Same(many(1000), many(1000)) {
		t.Error("the order counts, and any length will do")
	}
}

func TestOpenRefusesNoStoreAndOtherNodes(t *testing.T) {
	s := room(t)
	for _, node := range notManagers {
		notOpened(t, s, node, api.ErrForm)
		notOpened(t, nil, node, api.ErrForm)
	}
	for node := 16; node <= 23; node++ {
		notOpened(t, nil, node, api.ErrForm)
		holds(t, opened(t, s, node), api.Ballot{}, api.Ballot{})
	}
	put(t, s, "promise")
	notOpened(t, s, 15, api.ErrForm)
	notOpened(t, s, 16, api.ErrMessage)
	holds(t, opened(t, sized(t, 0), 16), api.Ballot{}, api.Ballot{})
}

// badBallots is rows that hold no ballot.
func badBallots() [][]byte {
	rows := [][]byte{nil, {0}, row(1), row(16), row(1, 16)[:15], row(1, 16)[1:], row(1, 16)[8:]}
	for _, b := range notBallots {
		rows = append(rows, row(b.N, b.Node))
	}
	return rows
}

func TestOpenRefusesWhatIsNoPromise(t *testing.T) {
	rows := badBallots()
	for _, more := range [][]byte{{0}, make([]byte, 8), row(0), rowOf(many(2)...)} {
		rows = append(rows, slices.Concat(row(1, 16), more), slices.Concat(more, row(1, 16)))
	}
	for _, b := range rows {
		s := room(t)
		put(t, s, "promise", b)
		notOpened(t, s, 16, api.ErrMessage)
		put(t, s, "vote", row(1, 16), rowOf(many(2)...))
		notOpened(t, s, 16, api.ErrMessage)
		put(t, s, "promise", row(1, 16))
		holds(t, opened(t, s, 16), ballot(1, 16), ballot(1, 16), many(2)...)
	}
}

func TestOpenRefusesWhatIsNoVote(t *testing.T) {
	rows := [][]byte{row(1, 16), row(1, 16, -1), row(1, 16, 1), row(1, 16, 0, 0), slices.Concat(row(1, 16, 0), []byte{0})}
	for _, b := range badBallots() {
		rows = append(rows, b, slices.Concat(b, rowOf()), slices.Concat(b, rowOf(many(2)...)))
	}
	two := rowOf(many(2)...)
	for n := range len(two) {
		rows = append(rows, slices.Concat(row(1, 16), two[:n]))
	}
	worse := many(2)
	worse[1].Dip++
	worse[1].Up = true
	rows = append(rows, slices.Concat(row(1, 16), two, two), slices.Concat(row(1, 16), rowOf(worse...)), slices.Concat(row(1, 16), rowOf(many(257)...)))
	for _, b := range rows {
		s := room(t)
		put(t, s, "vote", b)
		notOpened(t, s, 16, api.ErrMessage)
		put(t, s, "promise", row(1, 16))
		notOpened(t, s, 16, api.ErrMessage)
		put(t, s, "promise", row(0, 0))
		notOpened(t, s, 16, api.ErrMessage)
	}
}

func TestOpenReadsWhatStandsThere(t *testing.T) {
	for _, b := range []api.Ballot{ballot(1, 16), ballot(1, 23), ballot(255, 17), ballot(256, 18), ballot(1<<33, 19), ballot(lastTime, 16), ballot(lastTime, 23)} {
		for _, log := range [][]api.Command{nil, many(1), many(8), many(256)} {
			s := room(t)
			put(t, s, "promise", row(b.N, b.Node))
			holds(t, opened(t, s, 20), b, api.Ballot{})
			put(t, s, "vote", row(b.N, b.Node), rowOf(log...))
			holds(t, opened(t, s, 20), b, b, log...)
			put(t, s, "promise", row(lastTime, 23))
			holds(t, opened(t, s, 16), ballot(lastTime, 23), b, log...)
			s.Drop("promise")
			holds(t, opened(t, s, 16), api.Ballot{}, b, log...)
			put(t, s, "Promise", []byte("other"))
			put(t, s, "vote ", []byte("other"))
			put(t, s, "votes")
			holds(t, opened(t, s, 16), api.Ballot{}, b, log...)
		}
	}
}

// What is refused leaves all of the store as it is: no pair is put there.
func TestOpenPutsNothing(t *testing.T) {
	s := room(t)
	opened(t, s, 16)
	if keys := s.Keys(); len(keys) > 0 {
		t.Errorf("keys: %q", keys)
	}
	put(t, s, "promise", row(1, 16))
	opened(t, s, 16)
	if n := s.Crash(); n != 1 {
		t.Errorf("Crash() = %d", n)
	}
}

func TestPrepareAndAcceptRefuseOtherBallots(t *testing.T) {
	s := room(t)
	v := opened(t, s, 16)
	ask := func() {
		t.Helper()
		for _, b := range notBallots {
			prepareFails(t, v, api.ErrForm, b)
			acceptFails(t, v, api.ErrForm, b)
			acceptFails(t, v, api.ErrForm, b, many(3)...)
		}
	}
	ask()
	holds(t, v, api.Ballot{}, api.Ballot{})
	accepts(t, v, ballot(5, 18), many(2)...)
	ask()
	holds(t, v, ballot(5, 18), ballot(5, 18), many(2)...)
	prepares(t, v, ballot(lastTime, 23), ballot(5, 18), many(2)...)
	ask()
	holds(t, v, ballot(lastTime, 23), ballot(5, 18), many(2)...)
	s.Crash()
	holds(t, opened(t, s, 16), ballot(lastTime, 23), ballot(5, 18), many(2)...)
}

func TestBallotsBelowThePromise(t *testing.T) {
	rising := []api.Ballot{ballot(1, 16), ballot(1, 17), ballot(1, 23), ballot(2, 16), ballot(2, 20), ballot(255, 16), ballot(256, 16), ballot(lastTime-1, 23), ballot(lastTime, 16), ballot(lastTime, 22), ballot(lastTime, 23)}
	for i, promise := range rising {
		for j, b := range rising {
			v := opened(t, room(t), 19)
			prepares(t, v, promise, api.Ballot{})
			if j < i {
				prepareFails(t, v, api.ErrBallot, b)
				acceptFails(t, v, api.ErrBallot, b, many(1)...)
				acceptFails(t, v, api.ErrForm, b, many(257)...)
				holds(t, v, promise, api.Ballot{})
				continue
			}
			prepares(t, v, b, api.Ballot{})
			prepares(t, v, b, api.Ballot{})
			accepts(t, v, b, many(1)...)
			accepts(t, v, b, many(2)...)
			accepts(t, v, b)
			prepares(t, v, b, b)
		}
	}
}

// A ballot that was never promised may be accepted: it is the promise then.
func TestAcceptPromises(t *testing.T) {
	v := opened(t, room(t), 16)
	accepts(t, v, ballot(7, 20), many(4)...)
	prepareFails(t, v, api.ErrBallot, ballot(7, 19))
	acceptFails(t, v, api.ErrBallot, ballot(6, 21), many(5)...)
	accepts(t, v, ballot(8, 16), many(1)...)
	accepts(t, v, ballot(8, 17))
	prepares(t, v, ballot(9, 16), ballot(8, 17))
	acceptFails(t, v, api.ErrBallot, ballot(8, 17), many(1)...)
	holds(t, v, ballot(9, 16), ballot(8, 17))
}

func stands(t *testing.T, s *stable.Store, key string, want []byte) {
	t.Helper()
	if got, err := s.Get(key); err != nil || !bytes.Equal(got, want) {
		t.Fatalf("%s: %s, %v, want %s", key, short(got), err, short(want))
	}
}

func TestWhatStandsInTheStore(t *testing.T) {
	s := room(t)
	v := opened(t, s, 16)
	prepares(t, v, ballot(258, 17), api.Ballot{})
	stands(t, s, "promise", []byte("\x00\x00\x00\x00\x00\x00\x01\x02\x00\x00\x00\x00\x00\x00\x00\x11"))
	if keys := s.Keys(); !slices.Equal(keys, []string{"promise"}) || s.Sync() != 0 {
		t.Fatalf("keys: %q, or not all is synced", keys)
	}
	accepts(t, v, ballot(300, 18), many(3)...)
	stands(t, s, "promise", row(300, 18))
	stands(t, s, "vote", slices.Concat(row(300, 18), rowOf(many(3)...)))
	if s.Sync() != 0 {
		t.Fatal("not all is synced")
	}
	prepares(t, v, ballot(lastTime, 23), ballot(300, 18), many(3)...)
	stands(t, s, "promise", row(lastTime, 23))
	stands(t, s, "vote", slices.Concat(row(300, 18), rowOf(many(3)...)))
	if s.Sync() != 0 {
		t.Fatal("not all is synced")
	}
	accepts(t, v, ballot(lastTime, 23))
	stands(t, s, "vote", row(lastTime, 23, 0))
	if keys := s.Keys(); !slices.Equal(keys, []string{"promise", "vote"}) || s.Sync() != 0 {
		t.Fatalf("keys: %q, or not all is synced", keys)
	}
}

// The promise is put and synced whether or not it stands there already.
func TestTheSameBallotIsPutAgain(t *testing.T) {
	s := room(t)
	v := opened(t, s, 16)
	accepts(t, v, ballot(3, 16), many(3)...)
	s.Drop("promise", "vote")
	s.Sync()
	prepares(t, v, ballot(3, 16), ballot(3, 16), many(3)...)
	s.Crash()
	stands(t, s, "promise", row(3, 16))
	accepts(t, v, ballot(3, 16), many(3)...)
	s.Crash()
	stands(t, s, "vote", slices.Concat(row(3, 16), rowOf(many(3)...)))
}

// told is all pairs of a store.
func told(t *testing.T, s *stable.Store) map[string]string {
	t.Helper()
	pairs := map[string]string{}
	for _, key := range s.Keys() {
		b, err := s.Get(key)
		if err != nil {
			t.Fatal(err)
		}
		pairs[key] = string(b)
	}
	return pairs
}

func equal(a, b map[string]string) bool {
	for key, row := range a {
		if other, ok := b[key]; !ok || other != row {
			return false
		}
	}
	return len(a) == len(b)
}

// unsynced is a store of a size in which a pair has another row than at the last sync, if there is room for it.
func unsynced(t *testing.T, size int) *stable.Store {
	t.Helper()
	s := sized(t, size)
	s.Put("other", []byte("1234"))
	s.Sync()
	s.Put("other", []byte("5678"))
	return s
}

// A store that is too small by however little is as it was, and what wasn't synced still isn't.
func TestAFullStore(t *testing.T) {
	b := ballot(5, 17)
	for size := range 400 {
		for n, need := range []int{23, 23 + 28, 23 + 28 + 96, 23 + 28 + 192 + 48} {
			s := unsynced(t, size)
			v, before := opened(t, s, 16), told(t, s)
			fails := s.Used()+need > size
			var err error
			if n == 0 {
				_, _, err = v.Prepare(b)
			} else {
				err = v.Accept(b, []api.Command{{Node: 17, Kind: api.CLease, Dip: dip}, service(2)}[:n-1])
			}
			if fails != errors.Is(err, api.ErrFull) || !fails && err != nil {
				t.Fatalf("%d, %d: %v", size, need, err)
			}
			if !fails {
				if s.Used() != need+9*len(before) || s.Crash() != 0 {
					t.Fatalf("%d, %d: %d bytes, or not all is synced", size, need, s.Used())
				}
				continue
			}
			holds(t, v, api.Ballot{}, api.Ballot{})
			if !equal(told(t, s), before) || s.Crash() != len(before) {
				t.Fatalf("%d, %d: the store isn't as it was", size, need)
			}
		}
	}
}

func TestAFullStoreKeepsOlderRows(t *testing.T) {
	old, next := ballot(5, 17), ballot(6, 16)
	for n := range 5 {
		s := sized(t, 7+16+4+16+len(rowOf(many(n)...)))
		v := opened(t, s, 16)
		accepts(t, v, old, many(n)...)
		before := told(t, s)
		for _, more := range []int{n + 1, n + 2, 200} {
			acceptFails(t, v, api.ErrFull, next, many(more)...)
			holds(t, v, old, old, many(n)...)
			if !equal(told(t, s), before) || s.Sync() != 0 {
				t.Fatalf("%d, %d: the store isn't as it was", n, more)
			}
		}
		acceptFails(t, v, api.ErrBallot, ballot(4, 16), many(200)...)
		acceptFails(t, v, api.ErrForm, next, many(257)...)
		prepares(t, v, next, old, many(n)...)
		accepts(t, v, next, many(n)...)
		holds(t, opened(t, s, 16), next, next, many(n)...)
		accepts(t, v, next)
	}
}

// Where one of the two rows finds no room, the other one isn't put either, whichever was there before.
func TestAFullStoreWithOneOfTheTwo(t *testing.T) {
	old, next := ballot(5, 17), ballot(6, 16)
	fail := func(v *vote.Voter, s *stable.Store, log ...api.Command) {
		t.Helper()
		before := told(t, s)
		synced := s.Sync()
		put(t, s, "promise", row(4, 16))
		acceptFails(t, v, api.ErrFull, next, log...)
		stands(t, s, "promise", row(4, 16))
		s.Crash()
		if !equal(told(t, s), before) || synced != 0 {
			t.Fatalf("%v, want %v", told(t, s), before)
		}
	}
	s := sized(t, 7+16+4+16+8-1)
	v := opened(t, s, 16)
	prepares(t, v, old, api.Ballot{})
	fail(v, s)
	fail(v, s, many(3)...)
	holds(t, v, old, api.Ballot{})
	prepares(t, v, next, api.Ballot{})

	s = sized(t, 4+16+len(rowOf(many(2)...)))
	put(t, s, "vote", row(5, 17), rowOf(many(2)...))
	v = opened(t, s, 16)
	prepareFails(t, v, api.ErrFull, next)
	acceptFails(t, v, api.ErrFull, next, many(2)...)
	holds(t, v, api.Ballot{}, old, many(2)...)
	stands(t, s, "vote", slices.Concat(row(5, 17), rowOf(many(2)...)))
	if keys := s.Keys(); !slices.Equal(keys, []string{"vote"}) || s.Crash() != 1 {
		t.Fatalf("keys: %q, or the store was synced", keys)
	}
}

// What counts is what is there in the end: a shorter log leaves room for the promise.
func TestAnOlderVoteIsNotInTheWay(t *testing.T) {
	s := sized(t, 4+16+len(rowOf(many(2)...)))
	put(t, s, "vote", row(5, 17), rowOf(many(2)...))
	v := opened(t, s, 16)
	accepts(t, v, ballot(5, 17), many(1)...)
	s.Crash()
	holds(t, opened(t, s, 16), ballot(5, 17), ballot(5, 17), many(1)...)
}

func TestClaim(t *testing.T) {
	for _, x := range []struct {
		promise, want int
		above         []api.Ballot
	}{
		{0, 1, nil},
		{0, 1, []api.Ballot{{}}},
		{0, 1, []api.Ballot{ballot(-1, 16)}},
		{0, 1, []api.Ballot{ballot(math.MinInt, 16), ballot(-5, 23)}},
		{0, 2, []api.Ballot{ballot(1, 16)}},
		{0, 6, []api.Ballot{ballot(5, 18)}},
		{0, 6, []api.Ballot{ballot(5, 99), ballot(3, 16)}},
		{0, 6, []api.Ballot{ballot(3, 23), ballot(5, -1), ballot(4, 23)}},
		{9, 10, nil},
		{9, 10, []api.Ballot{ballot(8, 23)}},
		{9, 10, []api.Ballot{ballot(9, 23)}},
		{9, 11, []api.Ballot{ballot(10, 16)}},
		{9, 10, []api.Ballot{ballot(math.MinInt, 16), ballot(-5, 23)}},
		{0, lastTime, []api.Ballot{ballot(lastTime-1, 16)}},
		{0, lastTime - 1, []api.Ballot{ballot(lastTime-2, 16)}},
		{0, lastTime, []api.Ballot{ballot(lastTime, 16)}},
		{0, lastTime, []api.Ballot{ballot(lastTime+1, 16)}},
		{0, lastTime, []api.Ballot{ballot(1, 1), ballot(math.MaxInt, 16), ballot(2, 2)}},
		{lastTime - 1, lastTime, nil},
		{lastTime, lastTime, nil},
		{lastTime, lastTime, []api.Ballot{ballot(math.MaxInt, 16)}},
		{lastTime, lastTime, []api.Ballot{ballot(1, 16)}},
	} {
		for node := 16; node <= 23; node++ {
			v := opened(t, room(t), node)
			if x.promise > 0 {
				prepares(t, v, ballot(x.promise, 39-node), api.Ballot{})
			}
			before := v.Promised()
			if got := v.Claim(x.above...); got != (ballot(x.want, node)) {
				t.Errorf("Claim(%v) of %d, that promised %d = %v, want %d", x.above, node, x.promise, got, x.want)
			}
			holds(t, v, before, api.Ballot{})
		}
	}
}

func TestClaimKnowsThePromiseOfAnAccept(t *testing.T) {
	s := room(t)
	v := opened(t, s, 18)
	accepts(t, v, ballot(7, 23), many(1)...)
	if got := v.Claim(); got != (ballot(8, 18)) {
		t.Errorf("Claim() = %v", got)
	}
	if got := opened(t, s, 16).Claim(make([]api.Ballot, 1000)...); got != (ballot(8, 16)) {
		t.Errorf("Claim() = %v", got)
	}
}

func TestANilVoter(t *testing.T) {
	var v *vote.Voter
	for _, b := range append(notBallots, ballot(1, 16)) {
		prepareFails(t, v, api.ErrForm, b)
		acceptFails(t, v, api.ErrForm, b)
		acceptFails(t, v, api.ErrForm, b, many(2)...)
		acceptFails(t, v, api.ErrForm, b, many(257)...)
		if got := v.Claim(b, b); got != (api.Ballot{}) {
			t.Errorf("Claim() = %v", got)
		}
	}
	if got := v.Claim(); got != (api.Ballot{}) {
		t.Errorf("Claim() = %v", got)
	}
	holds(t, v, api.Ballot{}, api.Ballot{})
	if _, log := v.Accepted(); log != nil {
		t.Errorf("Accepted() = %v", log)
	}
}

// anyLog is a log of some commands, of which one may not be in form.
func anyLog(random *rand.Rand) ([]api.Command, bool) {
	log := many(random.IntN(5))
	random.Shuffle(len(log), func(i, j int) { log[i], log[j] = log[j], log[i] })
	if len(log) == 0 || random.IntN(6) > 0 {
		return log, true
	}
	switch at := random.IntN(len(log)); random.IntN(3) {
	case 0:
		log[at].Kind = 7
	case 1:
		log[at].Seq = -1
	default:
		log = append(log, log[at])
	}
	return log, false
}

// ledger is what a voter and its store must hold, kept another way: the store's rows and those of the last sync.
type ledger struct {
	size              int
	current, kept     map[string]string
	promise, accepted api.Ballot
	log               []api.Command
}

func with(pairs map[string]string, key, row string) map[string]string {
	more := map[string]string{key: row}
	for other, row := range pairs {
		if other != key {
			more[other] = row
		}
	}
	return more
}

// save is whether the rows find room.
func (l *ledger) save(pairs map[string]string) bool {
	used := 0
	for key, row := range pairs {
		used += len(key) + len(row)
	}
	if used > l.size {
		return false
	}
	l.current = pairs
	return true
}

func (l *ledger) prepare(b api.Ballot) error {
	if b.N < 1 || b.Node < 16 || b.Node > 23 {
		return api.ErrForm
	}
	if b.N < l.promise.N || b.N == l.promise.N && b.Node < l.promise.Node {
		return api.ErrBallot
	}
	if !l.save(with(l.current, "promise", string(row(b.N, b.Node)))) {
		return api.ErrFull
	}
	l.promise, l.kept = b, l.current
	return nil
}

func (l *ledger) accept(b api.Ballot, log []api.Command, good bool) error {
	older := *l
	if !good {
		return api.ErrForm
	}
	if err := l.prepare(b); err != nil {
		return err
	}
	if !l.save(with(l.current, "vote", string(row(b.N, b.Node))+string(rowOf(log...)))) {
		*l = older
		return api.ErrFull
	}
	l.accepted, l.log, l.kept = b, log, l.current
	return nil
}

// step does one thing to a voter and its store, and wants what the ledger says.
func (l *ledger) step(t *testing.T, random *rand.Rand, s *stable.Store, v *vote.Voter) *vote.Voter {
	t.Helper()
	b := ballot(l.promise.N+random.IntN(4)-1, 15+random.IntN(10))
	switch random.IntN(6) {
	case 0, 1:
		if err := l.prepare(b); err != nil {
			prepareFails(t, v, err, b)
		} else {
			prepares(t, v, b, l.accepted, l.log...)
		}
	case 2, 3:
		log, good := anyLog(random)
		if err := l.accept(b, log, good); err != nil {
			acceptFails(t, v, err, b, log...)
		} else {
			accepts(t, v, b, log...)
		}
	case 4:
		other := string(make([]byte, random.IntN(90)))
		if got := s.Put("other", []byte(other)); (got == nil) != l.save(with(l.current, "other", other)) {
			t.Fatalf("Put of %d bytes: %v", len(other), got)
		}
	default:
		if random.IntN(2) == 0 {
			s.Crash()
			l.current = l.kept
		}
		v = opened(t, s, 20)
	}
	return v
}

func TestAnyOrderOfCalls(t *testing.T) {
	for seed := range uint64(300) {
		random := generator(seed)
		l := &ledger{size: 20 + random.IntN(600)}
		s := sized(t, l.size)
		v := opened(t, s, 20)
		for range 60 {
			v = l.step(t, random, s, v)
			holds(t, v, l.promise, l.accepted, l.log...)
			if got := v.Claim(); got != (ballot(l.promise.N+1, 20)) {
				t.Fatalf("Claim() = %v behind %v", got, l.promise)
			}
			if got := told(t, s); !equal(got, l.current) {
				t.Fatalf("the store has %q, want %q", got, l.current)
			}
		}
	}
}

// P14.2

// anyCommand is a command in form.
func anyCommand(random *rand.Rand, seq int) api.Command {
	c := sayings()[random.IntN(8)]
	if c.Kind == api.CService {
		c = service(random.IntN(65))
		random.Shuffle(len(c.Service.Ends), func(i, j int) {
			c.Service.Ends[i], c.Service.Ends[j] = c.Service.Ends[j], c.Service.Ends[i]
		})
		c.Service.Vip, c.Service.Port = allVips[random.IntN(len(allVips))], 1+random.IntN(1023)
	} else {
		c.Dip = 0x0a010000 + api.Addr(random.IntN(8))<<8 + api.Addr(random.IntN(16))
	}
	c.Node, c.Boot, c.Seq, c.Time = 16+random.IntN(8), random.IntN(lastTime+1), seq, random.IntN(lastTime+1)
	return c
}

func TestReadOfWhatWriteAnswers(t *testing.T) {
	for seed := range uint64(300) {
		random := generator(seed)
		var log []api.Command
		for seq := range random.IntN(40) {
			log = append(log, anyCommand(random, seq))
		}
		b, err := vote.Write(log)
		if err != nil || !bytes.Equal(b, rowOf(log...)) {
			t.Fatalf("Write(%s) = %s, %v", short(log), short(b), err)
		}
		back, err := vote.Read(b)
		if err != nil || !alike(back, log) || !vote.Same(back, log) {
			t.Fatalf("Read(%s) = %s, %v, want %s", short(b), short(back), err, short(log))
		}
	}
}

func TestTheGreatestLog(t *testing.T) {
	var log []api.Command
	for seq := range 256 {
		c := service(64)
		c.Seq, c.Boot, c.Time = seq, lastTime-seq, lastTime
		log = append(log, c)
	}
	taken(t, log...)
	log = append(log, service(64))
	refused(t, log...)
}

// readable wants that bytes are refused, or are a log's.
func readable(t *testing.T, b []byte) bool {
	t.Helper()
	log, err := vote.Read(b)
	if err != nil {
		unread(t, b)
		return false
	}
	if again, err := vote.Write(log); err != nil || !bytes.Equal(again, b) {
		t.Fatalf("Read(%v) = %v, written again %v, %v", b, log, again, err)
	}
	if vote.CheckLog(log) != nil || !bytes.Equal(rowOf(log...), b) {
		t.Fatalf("Read(%v) = %v", b, log)
	}
	return true
}

func TestWhatReadTakesIsWrittenAgain(t *testing.T) {
	log := []api.Command{service(2), sayings()[3], sayings()[5]}
	log[1].Boot, log[2].Seq = 3, 4
	nums := numbers(log...)
	read := 0
	for at := range nums {
		for _, n := range []int{-1, 0, 1, 2, 3, 4, 5, 6, 16, 17, 18, 24, 255, 256, 1023, 1024, 65535, 65536, int(vip), int(dip), int(vip) + 1<<32, lastTime, lastTime + 1, math.MaxInt, math.MinInt} {
			other := slices.Clone(nums)
			other[at] = n
			if readable(t, row(other...)) {
				read++
			}
		}
	}
	for at, b := range rowOf(log...) {
		for n := range 256 {
			other := rowOf(log...)
			other[at] = byte(n)
			if readable(t, other) != (byte(n) == b) {
				read++
			}
		}
	}
	if read < 1000 {
		t.Errorf("%d other logs were read", read)
	}
}

func TestReadOfAnyBytes(t *testing.T) {
	for seed := range uint64(2000) {
		random := generator(seed)
		b := make([]byte, random.IntN(400))
		for i := range b {
			if i%8 == 7 || random.IntN(100) == 0 {
				b[i] = byte(random.IntN(30))
			}
		}
		readable(t, b)
		for i := range b {
			b[i] = byte(random.Uint32())
		}
		readable(t, b)
	}
	readable(t, bytes.Repeat([]byte{0xff}, 5000))
	readable(t, slices.Concat(row(256), make([]byte, 1<<24)))
	readable(t, slices.Concat(row(1), bytes.Repeat(row(64), 1<<20)))
}

// P14.3

// Behind each call that was answered without an error the store may crash: all is there again.
func TestBehindACrash(t *testing.T) {
	for seed := range uint64(200) {
		random := generator(1000 + seed)
		s := room(t)
		v := opened(t, s, 16)
		var promise, accepted api.Ballot
		var log []api.Command
		for range 40 {
			b := ballot(1+random.IntN(20), 16+random.IntN(3))
			if random.IntN(2) == 0 {
				if _, _, err := v.Prepare(b); err == nil {
					promise = b
				}
			} else if next := many(random.IntN(6)); v.Accept(b, next) == nil {
				promise, accepted, log = b, b, next
			}
			if random.IntN(3) == 0 {
				put(t, s, "promise", row(1, 16))
				put(t, s, "vote", row(1, 16, 0))
				s.Crash()
				v = opened(t, s, 16)
			}
			holds(t, v, promise, accepted, log...)
		}
	}
}

func TestThePromiseNeverFalls(t *testing.T) {
	for seed := range uint64(200) {
		random := generator(2000 + seed)
		s := sized(t, 30+random.IntN(500))
		v := opened(t, s, 16)
		last := v.Promised()
		for range 60 {
			b := ballot(random.IntN(30), 14+random.IntN(12))
			if random.IntN(2) == 0 {
				v.Prepare(b)
			} else if v.Accept(b, many(random.IntN(6))) == nil {
				if accepted, _ := v.Accepted(); accepted != v.Promised() {
					t.Fatalf("accepted %v, promised %v", accepted, v.Promised())
				}
			}
			if random.IntN(10) == 0 {
				s.Crash()
				v = opened(t, s, 16)
			}
			promise := v.Promised()
			accepted, _ := v.Accepted()
			if vote.Less(promise, last) || vote.Less(promise, accepted) {
				t.Fatalf("promised %v behind %v, accepted %v", promise, last, accepted)
			}
			last = promise
		}
	}
}

// P14.4

// spare is a log with room behind it and behind each list of ends, in which there is more.
func spare(n int) []api.Command {
	room := many(n + 2)
	for i := range room {
		room[i].Service.Ends = append(room[i].Service.Ends, ends(3)...)[:len(room[i].Service.Ends)]
	}
	return room[:n]
}

// whole is a log with all that is in the room behind it.
func whole(log []api.Command) []int {
	all := slices.Clone(log[:cap(log)])
	for i := range all {
		all[i].Service.Ends = all[i].Service.Ends[:cap(all[i].Service.Ends)]
	}
	return numbers(all...)
}

// spoil changes all of a log, with its spare room.
func spoil(log []api.Command) {
	log = log[:cap(log)]
	for i, c := range log {
		all := c.Service.Ends[:cap(c.Service.Ends)]
		for j := range all {
			all[j] = api.End{Dip: 9, Port: 9, Weight: 9}
		}
		log[i] = api.Command{Node: 9, Kind: 9, Service: c.Service, Up: true}
	}
}

func TestWhatIsHandedInStaysAsItIs(t *testing.T) {
	for n := range 10 {
		log := spare(n)
		before := whole(log)
		v := opened(t, room(t), 16)
		for _, c := range log {
			vote.Check(c)
		}
		vote.CheckLog(log)
		vote.Write(log)
		vote.Same(log, log)
		accepts(t, v, ballot(2, 16), log...)
		acceptFails(t, v, api.ErrBallot, ballot(1, 16), log...)
		prepares(t, v, ballot(3, 16), ballot(2, 16), log...)
		if !slices.Equal(whole(log), before) {
			t.Fatalf("%v, want %v", whole(log), before)
		}
	}
	above := []api.Ballot{ballot(5, 16), ballot(9, 17), ballot(2, 18), ballot(7, 19)}
	opened(t, room(t), 16).Claim(above[:2]...)
	if !slices.Equal(above, []api.Ballot{ballot(5, 16), ballot(9, 17), ballot(2, 18), ballot(7, 19)}) {
		t.Errorf("Claim changed %v", above)
	}
	b := slices.Concat(rowOf(many(3)...), []byte("behind"))
	vote.Read(b[:len(b)-6])
	if !bytes.Equal(b, slices.Concat(rowOf(many(3)...), []byte("behind"))) {
		t.Error("Read changed its bytes")
	}
}

func TestWhatIsHandedInIsNotKept(t *testing.T) {
	for n := range 10 {
		s := room(t)
		v := opened(t, s, 16)
		log := spare(n)
		b := ballot(2, 16)
		accepts(t, v, b, log...)
		spoil(log)
		holds(t, v, b, b, many(n)...)
		holds(t, opened(t, s, 16), b, b, many(n)...)

		bytesIn := rowOf(many(n)...)
		read, err := vote.Read(bytesIn)
		clear(bytesIn)
		if err != nil || !alike(read, many(n)) {
			t.Fatalf("Read kept its bytes: %v, %v", read, err)
		}
	}
}

func TestAnswersAreNewMemory(t *testing.T) {
	for n := range 10 {
		s := room(t)
		b := ballot(2, 16)
		v := opened(t, s, 16)
		accepts(t, v, b, many(n)...)
		for range 3 {
			_, one, _ := v.Prepare(b)
			_, two, _ := v.Prepare(b)
			_, three := v.Accepted()
			_, four := v.Accepted()
			spoil(one)
			spoil(three)
			if !alike(two, many(n)) || !alike(four, many(n)) {
				t.Fatalf("answers share memory: %v, %v", two, four)
			}
			holds(t, v, b, b, many(n)...)
			v = opened(t, s, 16)
			holds(t, v, b, b, many(n)...)
		}
		one, _ := vote.Write(many(n))
		two, _ := vote.Write(many(n))
		clear(one[:cap(one)])
		if !bytes.Equal(two, rowOf(many(n)...)) {
			t.Fatal("answers of Write share memory")
		}
	}
}

// apart wants that the lists of ends of one log share nothing, spare room included.
func apart(t *testing.T, log []api.Command) {
	t.Helper()
	for i := range log {
		want := numbers(slices.Delete(slices.Clone(log), i, i+1)...)
		spoil(log[i : i+1 : i+1])
		if got := numbers(slices.Delete(slices.Clone(log), i, i+1)...); !slices.Equal(got, want) {
			t.Fatalf("%v, want %v", got, want)
		}
	}
}

func TestNoTwoListsOfOneAnswerShareAny(t *testing.T) {
	var log []api.Command
	shared := ends(5)
	for seq := range 4 {
		c := service(0)
		c.Seq, c.Service.Ends = seq, shared[seq%2:3+seq%2]
		log = append(log, c)
	}
	read, err := vote.Read(rowOf(log...))
	if err != nil {
		t.Fatal(err)
	}
	apart(t, read)
	v := opened(t, room(t), 16)
	accepts(t, v, ballot(1, 16), log...)
	_, answer, _ := v.Prepare(ballot(1, 16))
	apart(t, answer)
	_, answer = v.Accepted()
	apart(t, answer)
	holds(t, v, ballot(1, 16), ballot(1, 16), log...)
}

// A log that was told may be handed in again.
func TestAnswersMayBeHandedInAgain(t *testing.T) {
	v := opened(t, room(t), 16)
	accepts(t, v, ballot(1, 16), many(8)...)
	for n := 2; n < 6; n++ {
		_, log, _ := v.Prepare(ballot(n, 16))
		if err := v.Accept(ballot(n, 17), log); err != nil {
			t.Fatal(err)
		}
		spoil(log)
		holds(t, v, ballot(n, 17), ballot(n, 17), many(8)...)
	}
}
