package state_test

import (
	"fmt"
	"math"
	"math/rand/v2"
	"slices"
	"strings"
	"testing"

	"towpath/api"
	"towpath/lease"
	"towpath/state"
	"towpath/vote"
)

const (
	vipA api.Addr = 0x01010101
	vipB api.Addr = 0x02020202
	vipC api.Addr = 0x03030303

	lastTime = 1 << 40
)

func generator(seed uint64) *rand.Rand {
	return rand.New(rand.NewPCG(seed, 16))
}

// dip is the n-th of all 128 machines.
func dip(n int) api.Addr {
	return 0x0a010000 + api.Addr(n/16)<<8 + api.Addr(n%16)
}

func end(n, port, weight int) api.End {
	return api.End{Dip: dip(n), Port: port, Weight: weight}
}

// ends is so many ends, of the machines from the first one on.
func ends(first, n int) []api.End {
	var list []api.End
	for i := range n {
		list = append(list, end(first+i, 8080+i, 1+i%16))
	}
	return list
}

func let(vip api.Addr, first int, dip api.Addr, expires int) api.Lease {
	return api.Lease{Vip: vip, First: first, Dip: dip, Expires: expires}
}

func snat(dip, vip api.Addr) api.Snat {
	return api.Snat{Dip: dip, Vip: vip}
}

// serve, open, shut, heal, hurt and ask are commands of all kinds, each way to say them.
func serve(vip api.Addr, proto, port int, ends ...api.End) api.Command {
	return api.Command{Node: 16, Kind: api.CService, Service: api.Service{Vip: vip, Proto: proto, Port: port, Ends: ends}}
}

func open(dip, vip api.Addr) api.Command {
	return api.Command{Node: 16, Kind: api.CSnat, Dip: dip, Vip: vip, Up: true}
}

func shut(dip api.Addr) api.Command {
	return api.Command{Node: 16, Kind: api.CSnat, Dip: dip}
}

func heal(dip api.Addr) api.Command {
	return api.Command{Node: 16, Kind: api.CHealth, Dip: dip, Up: true}
}

func hurt(dip api.Addr) api.Command {
	return api.Command{Node: 16, Kind: api.CHealth, Dip: dip}
}

func ask(dip api.Addr) api.Command {
	return api.Command{Node: 16, Kind: api.CLease, Dip: dip}
}

func at(time int, c api.Command) api.Command {
	c.Time = time
	return c
}

// sayings is a command of each kind, of each way to say it.
func sayings() []api.Command {
	return []api.Command{
		serve(vipA, api.TCP, 80, ends(0, 3)...),
		serve(vipA, api.TCP, 80),
		open(dip(1), vipA),
		shut(dip(1)),
		heal(dip(1)),
		hurt(dip(1)),
		ask(dip(1)),
	}
}

// notCommands are commands that aren't in form, each by another fault.
func notCommands() []api.Command {
	bad := []api.Command{
		{},
		{Kind: api.CLease, Dip: dip(1)},
		{Node: 16, Dip: dip(1)},
		{Node: 16, Kind: 5, Dip: dip(1)},
		{Node: 16, Kind: -4, Dip: dip(1)},
		{Node: 16, Kind: math.MaxInt, Dip: dip(1)},
		serve(dip(1), api.TCP, 80, ends(0, 1)...),
		serve(vipA, 0, 80, ends(0, 1)...),
		serve(vipA, api.IPIP, 80),
		serve(vipA, api.TCP, 0),
		serve(vipA, api.TCP, 1024, ends(0, 1)...),
		serve(vipA, api.TCP, 80, ends(0, 65)...),
		serve(vipA, api.TCP, 80, end(1, 1, 1), end(1, 2, 2)),
		serve(vipA, api.TCP, 80, end(1, 1, 0)),
		serve(vipA, api.TCP, 80, end(1, 1, 17)),
		serve(vipA, api.TCP, 80, end(1, 65536, 1)),
		serve(vipA, api.TCP, 80, api.End{Dip: vipA, Port: 1, Weight: 1}),
		open(dip(1), 0),
		open(dip(1), dip(2)),
		open(vipA, vipB),
		{Node: 16, Kind: api.CSnat, Dip: dip(1), Vip: vipB},
		shut(0),
		heal(vipA),
		hurt(0x0a010010),
		{Node: 16, Kind: api.CHealth, Dip: dip(1), Vip: vipA},
		ask(0),
		ask(0x0a010800),
		{Node: 16, Kind: api.CLease, Dip: dip(1), Up: true},
		{Node: 16, Kind: api.CLease, Dip: dip(1), Vip: vipA},
	}
	for _, c := range sayings() {
		faults := []func(c *api.Command){
			func(c *api.Command) { c.Node = 15 },
			func(c *api.Command) { c.Node = 24 },
			func(c *api.Command) { c.Boot = -1 },
			func(c *api.Command) { c.Seq = lastTime + 1 },
			func(c *api.Command) { c.Time = -1 },
			func(c *api.Command) { c.Time = lastTime + 1 },
			func(c *api.Command) { c.Time = math.MaxInt },
			func(c *api.Command) { c.Time = math.MinInt },
		}
		for _, fault := range faults {
			worse := c
			fault(&worse)
			bad = append(bad, worse)
		}
	}
	return bad
}

// text is a value as it is printed: lists without anything are the same, nil or not.
func text(value any) string {
	return fmt.Sprint(value)
}

func short(value any) string {
	return fmt.Sprintf("%.600s", text(value))
}

// A ledger is what a log comes to, worked out another way: each thing has a page of its own, and nothing is in an order.
type ledger struct {
	epoch, now int
	services   map[place][]api.End
	snats      map[api.Addr]api.Addr
	sick       map[api.Addr]bool
	lent       map[block]lent
}

type place struct {
	vip         api.Addr
	proto, port int
}

type block struct {
	vip   api.Addr
	first int
}

type lent struct {
	dip     api.Addr
	expires int
}

func blank() *ledger {
	return &ledger{services: map[place][]api.End{}, snats: map[api.Addr]api.Addr{}, sick: map[api.Addr]bool{}, lent: map[block]lent{}}
}

// write does what a command says, and tells its result.
func (g *ledger) write(c api.Command) api.Result {
	g.epoch++
	if vote.Check(c) != nil {
		return failed(api.ErrForm)
	}
	if c.Time > g.now {
		g.now = c.Time
	}
	switch c.Kind {
	case api.CService:
		return g.writeService(place{c.Service.Vip, c.Service.Proto, c.Service.Port}, c.Service.Ends)
	case api.CSnat:
		_, there := g.snats[c.Dip]
		delete(g.snats, c.Dip)
		if c.Up {
			g.snats[c.Dip] = c.Vip
		} else if !there {
			return failed(api.ErrGone)
		}
	case api.CHealth:
		delete(g.sick, c.Dip)
		if !c.Up {
			g.sick[c.Dip] = true
		}
	case api.CLease:
		return g.writeLease(c.Dip)
	}
	return api.Result{}
}

func (g *ledger) writeService(p place, ends []api.End) api.Result {
	_, there := g.services[p]
	switch {
	case len(ends) == 0 && !there:
		return failed(api.ErrGone)
	case len(ends) == 0:
		delete(g.services, p)
	case !there && len(g.services) == 32:
		return failed(api.ErrFull)
	default:
		g.services[p] = slices.Clone(ends)
	}
	return api.Result{}
}

func (g *ledger) writeLease(dip api.Addr) api.Result {
	vip, there := g.snats[dip]
	if !there {
		return failed(api.ErrGone)
	}
	count := 0
	for b, l := range g.lent {
		if l.expires < g.now {
			delete(g.lent, b)
		} else if l.dip == dip {
			count++
		}
	}
	// All that may end soon, sooner ones first.
	for left := range 32 {
		first := math.MaxInt
		for b, l := range g.lent {
			if b.vip == vip && l == (lent{dip, g.now + left}) {
				first = min(first, b.first)
			}
		}
		if first < math.MaxInt {
			return g.lend(vip, first, dip)
		}
	}
	if count >= 4 {
		return failed(api.ErrQuota)
	}
	for first := 1024; ; first += 8 {
		if _, there := g.lent[block{vip, first}]; !there {
			return g.lend(vip, first, dip)
		}
	}
}

func (g *ledger) lend(vip api.Addr, first int, dip api.Addr) api.Result {
	g.lent[block{vip, first}] = lent{dip, g.now + 64}
	return api.Result{Lease: let(vip, first, dip, g.now+64)}
}

// config is all pages in their order.
func (g *ledger) config() api.Config {
	c := api.Config{Epoch: g.epoch, Now: g.now}
	for p, ends := range g.services {
		c.Services = append(c.Services, api.Service{Vip: p.vip, Proto: p.proto, Port: p.port, Ends: slices.Clone(ends)})
	}
	for dip, vip := range g.snats {
		c.Snats = append(c.Snats, api.Snat{Dip: dip, Vip: vip})
	}
	for dip := range g.sick {
		c.Sick = append(c.Sick, dip)
	}
	for b, l := range g.lent {
		c.Leases = append(c.Leases, let(b.vip, b.first, l.dip, l.expires))
	}
	byText(c.Services, func(s api.Service) string { return fmt.Sprintf("%08x %02x %04x", s.Vip, s.Proto, s.Port) })
	byText(c.Snats, func(s api.Snat) string { return fmt.Sprintf("%08x", s.Dip) })
	byText(c.Sick, func(dip api.Addr) string { return fmt.Sprintf("%08x", dip) })
	byText(c.Leases, func(l api.Lease) string { return fmt.Sprintf("%08x %04x", l.Vip, l.First) })
	return c
}

// byText sorts a list by a text of each.
func byText[T any](list []T, of func(T) string) {
	slices.SortFunc(list, func(a, b T) int { return strings.Compare(of(a), of(b)) })
}

func failed(e api.Errno) api.Result {
	return api.Result{Err: int(e)}
}

// A story is a log as it grows: behind each command it is folded anew, from its beginning on.
type story struct {
	t       *testing.T
	ledger  *ledger
	log     []api.Command
	results []api.Result
	config  api.Config
}

func begin(t *testing.T) *story {
	return &story{t: t, ledger: blank()}
}

func (s *story) comes(c api.Command, want api.Result) {
	s.t.Helper()
	if got := s.follows(c); got != want {
		s.t.Fatalf("%+v came to %v, want %v", c, got, want)
	}
}

// follows puts a command behind the log, and wants what the ledger has.
func (s *story) follows(c api.Command) api.Result {
	s.t.Helper()
	want := s.ledger.write(c)
	s.log = append(s.log, c)
	s.results = append(s.results, want)
	var results []api.Result
	s.config, results = state.Fold(s.log...)
	if !slices.Equal(results, s.results) {
		s.t.Fatalf("behind %+v, the %d. command: the results are %s, want %s", c, len(s.log), short(results), short(s.results))
	}
	if got, want := text(s.config), text(s.ledger.config()); got != want {
		s.t.Fatalf("behind %+v, the %d. command: %s, want %s", c, len(s.log), short(got), short(want))
	}
	return want
}

func (s *story) done(commands ...api.Command) {
	s.t.Helper()
	for _, c := range commands {
		s.comes(c, api.Result{})
	}
}

func (s *story) fails(e api.Errno, commands ...api.Command) {
	s.t.Helper()
	for _, c := range commands {
		s.comes(c, failed(e))
	}
}

// lends has a machine ask at a time, and be lent a block of a vip.
func (s *story) lends(time int, dip, vip api.Addr, first, expires int) {
	s.t.Helper()
	s.comes(at(time, ask(dip)), api.Result{Lease: let(vip, first, dip, expires)})
}

func (s *story) asks(time int, dip api.Addr, e api.Errno) {
	s.t.Helper()
	s.comes(at(time, ask(dip)), failed(e))
}

// is holds what the log comes to against what is written down by hand.
func (s *story) is(epoch, now int, services []api.Service, snats []api.Snat, sick []api.Addr, leases []api.Lease) {
	s.t.Helper()
	want := api.Config{Epoch: epoch, Now: now, Services: services, Snats: snats, Sick: sick, Leases: leases}
	if text(s.config) != text(want) {
		s.t.Fatalf("%s, want %s", short(s.config), short(want))
	}
}

func (s *story) leases(leases ...api.Lease) {
	s.t.Helper()
	if !slices.Equal(s.config.Leases, leases) {
		s.t.Fatalf("the leases are %v, want %v", s.config.Leases, leases)
	}
}

// P16.1: Fold

func TestExample(t *testing.T) {
	s := begin(t)
	s.done(open(dip(1), vipA))
	s.lends(5, dip(1), vipA, 1024, 69)
	snats := []api.Snat{snat(dip(1), vipA)}
	s.is(2, 5, nil, snats, nil, []api.Lease{let(vipA, 1024, dip(1), 69)})
	s.lends(30, dip(1), vipA, 1032, 94)
	s.lends(40, dip(1), vipA, 1024, 104)
	s.is(4, 40, nil, snats, nil, []api.Lease{let(vipA, 1024, dip(1), 104), let(vipA, 1032, dip(1), 94)})
}

func TestFoldOfNothing(t *testing.T) {
	for _, log := range [][]api.Command{nil, {}} {
		c, results := state.Fold(log...)
		if text(c) != text(api.Config{}) || len(results) != 0 {
			t.Errorf("%v, %v", c, results)
		}
	}
}

// A log may be longer than managers' logs are, and may have a command twice: each one counts.
func TestFoldTakesAnyLog(t *testing.T) {
	s := begin(t)
	for i := range 300 {
		s.done(at(i, hurt(dip(i%128))), open(dip(7), vipA))
	}
	s.done(heal(dip(127)))
	if c := s.config; c.Epoch != 601 || c.Now != 299 || len(c.Sick) != 127 || len(c.Snats) != 1 {
		t.Errorf("%v", c)
	}
}

func TestNowNeverFalls(t *testing.T) {
	s := begin(t)
	for i, time := range []int{0, 7, 3, 7, 8, 0, lastTime - 1, 9, lastTime, lastTime - 1, 0} {
		s.done(at(time, sayings()[[]int{0, 2, 4, 5}[i%4]]))
		if want := []int{0, 7, 7, 7, 8, 8, lastTime - 1, lastTime - 1, lastTime, lastTime, lastTime}[i]; s.config.Now != want || s.config.Epoch != i+1 {
			t.Fatalf("Now is %d, want %d; Epoch %d", s.config.Now, want, s.config.Epoch)
		}
	}
}

// A command that is refused makes it later all the same.
func TestRefusedCommandsMakeItLater(t *testing.T) {
	s := begin(t)
	s.fails(api.ErrGone, at(3, serve(vipA, api.TCP, 80)), at(5, shut(dip(1))), at(9, ask(dip(1))), at(4, ask(dip(1))))
	s.is(4, 9, nil, nil, nil, nil)
}

func TestCommandsThatArentInForm(t *testing.T) {
	for _, bad := range notCommands() {
		s := begin(t)
		s.fails(api.ErrForm, bad)
		s.is(1, 0, nil, nil, nil, nil)
		s.done(at(2, serve(vipA, api.TCP, 80, ends(0, 2)...)), open(dip(1), vipA), hurt(dip(1)))
		s.lends(2, dip(1), vipA, 1024, 66)
		before := s.config
		if bad.Time == 0 {
			bad.Time = 50
		}
		for i := range 3 {
			s.fails(api.ErrForm, bad)
			s.is(6+i, 2, before.Services, before.Snats, before.Sick, before.Leases)
		}
	}
}

func TestServicesStandInTheirOrder(t *testing.T) {
	var all []api.Service
	for _, vip := range []api.Addr{0x01000000, vipA, vipB, 0x80000000, 0xdfffffff} {
		for _, proto := range []int{api.TCP, api.UDP} {
			for _, port := range []int{1, 80, 1023} {
				all = append(all, api.Service{Vip: vip, Proto: proto, Port: port, Ends: ends(len(all), 1+len(all)%3)})
			}
		}
	}
	for seed := range uint64(20) {
		random := generator(seed)
		s := begin(t)
		for _, i := range random.Perm(len(all)) {
			s.done(serve(all[i].Vip, all[i].Proto, all[i].Port, all[i].Ends...))
		}
		s.is(30, 0, all, nil, nil, nil)
		left := slices.Clone(all)
		for _, i := range random.Perm(len(all))[:20] {
			s.done(serve(all[i].Vip, all[i].Proto, all[i].Port))
			left = slices.DeleteFunc(left, func(s api.Service) bool { return text(s) == text(all[i]) })
		}
		s.is(50, 0, left, nil, nil, nil)
	}
}

func TestServicesAreReplaced(t *testing.T) {
	s := begin(t)
	s.done(serve(vipA, api.TCP, 80, end(9, 1, 1), end(3, 2, 2)), serve(vipA, api.UDP, 80, end(1, 5, 5)), serve(vipB, api.TCP, 80, end(2, 6, 6)))
	s.done(serve(vipA, api.TCP, 80, end(4, 3, 3)))
	udp, other := api.Service{Vip: vipA, Proto: 17, Port: 80, Ends: []api.End{end(1, 5, 5)}}, api.Service{Vip: vipB, Proto: 6, Port: 80, Ends: []api.End{end(2, 6, 6)}}
	one := api.Service{Vip: vipA, Proto: 6, Port: 80, Ends: []api.End{end(4, 3, 3)}}
	s.is(4, 0, []api.Service{one, udp, other}, nil, nil, nil)
	one.Ends = []api.End{end(8, 4, 4), end(4, 3, 3), end(6, 1, 1)}
	s.done(serve(vipA, api.TCP, 80, one.Ends...))
	s.is(5, 0, []api.Service{one, udp, other}, nil, nil, nil)
	s.done(serve(vipA, api.TCP, 80, ends(0, 64)...))
	s.done(serve(vipA, api.UDP, 80))
	one.Ends = ends(0, 64)
	s.is(7, 0, []api.Service{one, other}, nil, nil, nil)
}

func TestServicesThatAreNone(t *testing.T) {
	s := begin(t)
	s.fails(api.ErrGone, serve(vipA, api.TCP, 80))
	s.done(serve(vipA, api.TCP, 80, ends(0, 1)...))
	s.fails(api.ErrGone, serve(vipB, api.TCP, 80), serve(vipA, api.UDP, 80), serve(vipA, api.TCP, 81), serve(vipA, api.TCP, 79))
	empty := serve(vipA, api.TCP, 80)
	empty.Service.Ends = []api.End{}
	s.done(empty)
	s.fails(api.ErrGone, empty, serve(vipA, api.TCP, 80))
	s.is(9, 0, nil, nil, nil, nil)
}

func TestServicesAreFull(t *testing.T) {
	s := begin(t)
	for i := range 32 {
		s.done(serve(vipB, api.TCP, 100+i, ends(i, 1)...))
	}
	full := s.config.Services
	s.fails(api.ErrFull, at(7, serve(vipB, api.TCP, 132, ends(0, 1)...)), serve(vipB, api.TCP, 99, ends(0, 1)...))
	s.fails(api.ErrFull, serve(vipA, api.TCP, 100, ends(0, 1)...), serve(vipC, api.TCP, 100, ends(0, 1)...), serve(vipB, api.UDP, 100, ends(0, 1)...))
	s.is(37, 7, full, nil, nil, nil)
	// One that is there already has but 31 others.
	for i := range 32 {
		s.done(serve(vipB, api.TCP, 100+i, ends(i, 2)...))
	}
	s.fails(api.ErrGone, serve(vipA, api.TCP, 100))
	s.done(serve(vipB, api.TCP, 117), serve(vipA, api.UDP, 53, ends(0, 1)...))
	s.fails(api.ErrFull, serve(vipB, api.TCP, 117, ends(0, 1)...))
	s.done(serve(vipA, api.UDP, 53, ends(5, 5)...))
}

func TestSnats(t *testing.T) {
	s := begin(t)
	s.fails(api.ErrGone, shut(dip(1)))
	s.done(open(dip(40), vipB), open(dip(1), vipA), open(dip(127), vipA), open(dip(0), vipC))
	s.is(5, 0, nil, []api.Snat{snat(dip(0), vipC), snat(dip(1), vipA), snat(dip(40), vipB), snat(dip(127), vipA)}, nil, nil)
	s.done(open(dip(1), vipB), open(dip(1), vipB), open(dip(127), vipC))
	s.is(8, 0, nil, []api.Snat{snat(dip(0), vipC), snat(dip(1), vipB), snat(dip(40), vipB), snat(dip(127), vipC)}, nil, nil)
	s.done(shut(dip(1)))
	s.fails(api.ErrGone, shut(dip(1)), shut(dip(2)))
	s.done(shut(dip(127)), shut(dip(0)))
	s.is(13, 0, nil, []api.Snat{snat(dip(40), vipB)}, nil, nil)
	s.done(shut(dip(40)))
	s.fails(api.ErrGone, shut(dip(40)))
	s.is(15, 0, nil, nil, nil, nil)
}

func TestSick(t *testing.T) {
	s := begin(t)
	s.done(heal(dip(5)))
	s.is(1, 0, nil, nil, nil, nil)
	s.done(hurt(dip(5)), hurt(dip(90)), hurt(dip(0)), hurt(dip(5)), hurt(dip(127)))
	s.is(6, 0, nil, nil, []api.Addr{dip(0), dip(5), dip(90), dip(127)}, nil)
	s.done(heal(dip(5)), heal(dip(5)), heal(dip(6)), hurt(dip(0)))
	s.is(10, 0, nil, nil, []api.Addr{dip(0), dip(90), dip(127)}, nil)
	s.done(heal(dip(127)), heal(dip(0)), heal(dip(90)), heal(dip(90)))
	s.is(14, 0, nil, nil, nil, nil)
}

// All machines have an address, are sick, and are lent as many blocks as they may have.
func TestAllMachines(t *testing.T) {
	var log []api.Command
	for _, n := range generator(1).Perm(128) {
		log = append(log, open(dip(n), vipA), hurt(dip(n)), ask(dip(n)), ask(dip(n)), ask(dip(n)), ask(dip(n)), ask(dip(n)))
	}
	c, results := state.Fold(log...)
	if c.Epoch != 7*128 || len(c.Snats) != 128 || len(c.Sick) != 128 || len(c.Leases) != 512 {
		t.Fatalf("%d %d %d %d", c.Epoch, len(c.Snats), len(c.Sick), len(c.Leases))
	}
	for n := range 128 {
		if c.Snats[n] != snat(dip(n), vipA) || c.Sick[n] != dip(n) {
			t.Fatalf("%v %v", c.Snats[n], c.Sick[n])
		}
		for i := range 4 {
			want := let(vipA, 1024+8*(4*n+i), log[7*n].Dip, 64)
			if c.Leases[4*n+i] != want || results[7*n+2+i] != (api.Result{Lease: want}) {
				t.Fatalf("%v, %v, want %v", c.Leases[4*n+i], results[7*n+2+i], want)
			}
		}
		if results[7*n+6] != failed(api.ErrQuota) {
			t.Fatalf("%v", results[7*n+6])
		}
	}
}

func TestLeasesNeedAnAddress(t *testing.T) {
	s := begin(t)
	s.asks(5, dip(1), api.ErrGone)
	s.done(open(dip(2), vipA))
	s.asks(5, dip(1), api.ErrGone)
	s.lends(5, dip(2), vipA, 1024, 69)
	s.done(shut(dip(2)))
	s.asks(6, dip(2), api.ErrGone)
	s.leases(let(vipA, 1024, dip(2), 69))
}

// A lease that has 31 ticks left is renewed, one that has 32 is not.
func TestWhenALeaseIsRenewed(t *testing.T) {
	for _, start := range []int{0, 5, lastTime - 64, lastTime - 40} {
		for _, c := range []struct {
			later, first int
		}{{0, 1032}, {1, 1032}, {31, 1032}, {32, 1032}, {33, 1024}, {34, 1024}, {63, 1024}, {64, 1024}} {
			if start+c.later > lastTime {
				continue
			}
			s := begin(t)
			s.done(open(dip(1), vipA))
			s.lends(start, dip(1), vipA, 1024, start+64)
			s.lends(start+c.later, dip(1), vipA, c.first, start+c.later+64)
		}
	}
	s := begin(t)
	s.done(open(dip(1), vipA), open(dip(2), vipA))
	s.lends(5, dip(1), vipA, 1024, 69)
	s.lends(6, dip(2), vipA, 1032, 70)
	s.lends(70, dip(2), vipA, 1032, 134)
	s.leases(let(vipA, 1032, dip(2), 134))
	// It has ended: the block is lent anew.
	s.lends(71, dip(1), vipA, 1024, 135)
}

func TestTheLeaseThatEndsFirstIsRenewed(t *testing.T) {
	s := begin(t)
	s.done(open(dip(1), vipA))
	s.lends(10, dip(1), vipA, 1024, 74)
	s.lends(11, dip(1), vipA, 1032, 75)
	s.lends(12, dip(1), vipA, 1040, 76)
	s.lends(12, dip(1), vipA, 1048, 76)
	s.asks(42, dip(1), api.ErrQuota)
	s.lends(43, dip(1), vipA, 1024, 107)
	s.asks(43, dip(1), api.ErrQuota)
	s.lends(45, dip(1), vipA, 1032, 109)
	// Of two that end at once the first block's is renewed.
	s.lends(45, dip(1), vipA, 1040, 109)
	s.lends(45, dip(1), vipA, 1048, 109)
	s.asks(45, dip(1), api.ErrQuota)
	s.asks(75, dip(1), api.ErrQuota)
	s.lends(80, dip(1), vipA, 1024, 144)
	s.lends(80, dip(1), vipA, 1032, 144)
	s.lends(80, dip(1), vipA, 1040, 144)
	s.lends(80, dip(1), vipA, 1048, 144)
	s.asks(80, dip(1), api.ErrQuota)
}

// Neither another machine's lease nor that of another address is renewed.
func TestLeasesOfOthersArentRenewed(t *testing.T) {
	s := begin(t)
	s.done(open(dip(1), vipB), open(dip(2), vipB))
	s.lends(5, dip(1), vipB, 1024, 69)
	s.lends(50, dip(2), vipB, 1032, 114)
	s.done(open(dip(1), vipA))
	s.lends(51, dip(1), vipA, 1024, 115)
	s.done(open(dip(1), vipC))
	s.lends(52, dip(1), vipC, 1024, 116)
	s.done(open(dip(1), vipA))
	s.lends(53, dip(1), vipA, 1032, 117)
	s.asks(54, dip(1), api.ErrQuota)
	s.done(open(dip(1), vipB))
	s.lends(55, dip(1), vipB, 1024, 119)
	s.leases(let(vipA, 1024, dip(1), 115), let(vipA, 1032, dip(1), 117), let(vipB, 1024, dip(1), 119), let(vipB, 1032, dip(2), 114), let(vipC, 1024, dip(1), 116))
	s.asks(56, dip(1), api.ErrQuota)
	s.asks(81, dip(1), api.ErrQuota)
	s.done(open(dip(1), vipC))
	// The lease of vipA ends sooner, but isn't of its address.
	s.lends(85, dip(1), vipC, 1024, 149)
}

func TestAMachineHasFourLeases(t *testing.T) {
	s := begin(t)
	s.done(open(dip(1), vipA), open(dip(2), vipA))
	for i := range 4 {
		s.lends(5, dip(1), vipA, 1024+8*i, 69)
	}
	s.asks(5, dip(1), api.ErrQuota)
	s.lends(5, dip(2), vipA, 1056, 69)
	s.done(open(dip(1), vipB))
	s.asks(69, dip(1), api.ErrQuota)
	s.lends(70, dip(1), vipB, 1024, 134)
	s.leases(let(vipB, 1024, dip(1), 134))
}

// Leases that don't live stay until a machine that has an address asks, whatever it is answered.
func TestLeasesAreTakenOut(t *testing.T) {
	s := begin(t)
	s.done(open(dip(1), vipA), open(dip(2), vipB), open(dip(3), vipA))
	s.lends(5, dip(1), vipA, 1024, 69)
	s.lends(6, dip(3), vipA, 1032, 70)
	for range 4 {
		s.lends(20, dip(2), vipB, 1024+8*len(s.config.Leases)-16, 84)
	}
	twos := slices.Clone(s.config.Leases[2:])
	all := slices.Clone(s.config.Leases)
	s.done(open(dip(2), vipC))
	s.done(at(69, heal(dip(1))))
	s.asks(69, dip(2), api.ErrQuota)
	s.leases(all...)
	s.done(at(75, heal(dip(1))), serve(vipA, api.TCP, 80, ends(0, 1)...), shut(dip(1)), serve(vipA, api.TCP, 80))
	s.asks(75, dip(1), api.ErrGone)
	s.fails(api.ErrForm, ask(0))
	s.leases(all...)
	s.asks(70, dip(2), api.ErrQuota)
	s.leases(twos...)
	s.lends(85, dip(3), vipA, 1024, 149)
	s.leases(let(vipA, 1024, dip(3), 149))
}

// A command of an earlier time finds leases as they are Now.
func TestLeasesLastFromNowOn(t *testing.T) {
	s := begin(t)
	s.done(open(dip(1), vipA), open(dip(2), vipA), at(100, heal(dip(1))))
	s.lends(5, dip(1), vipA, 1024, 164)
	s.done(at(133, heal(dip(1))))
	s.lends(0, dip(1), vipA, 1024, 197)
	s.done(at(198, heal(dip(1))))
	s.lends(7, dip(2), vipA, 1024, 262)
	s.leases(let(vipA, 1024, dip(2), 262))
}

func TestLeasesAtTheLastTime(t *testing.T) {
	s := begin(t)
	s.done(at(lastTime, open(dip(1), vipA)))
	for i := range 4 {
		s.lends(lastTime-i, dip(1), vipA, 1024+8*i, lastTime+64)
	}
	s.asks(lastTime, dip(1), api.ErrQuota)
}

// P16.1, P16.2 and P16.3: many logs

// A pool is what a random log speaks of: the fewer things, the more often commands meet.
type pool struct {
	random             *rand.Rand
	vips               []api.Addr
	machines, ports    int
	time, pace, faults int
}

func newPool(seed uint64) *pool {
	random := generator(seed)
	vips := []api.Addr{vipB, vipA, 0xdfffffff, vipC}
	return &pool{random: random, vips: vips[:1+random.IntN(4)], machines: 1 + random.IntN(9), ports: 1 + random.IntN(9), time: random.IntN(3), pace: 1 + random.IntN(30), faults: 5 + random.IntN(40)}
}

func (p *pool) vip() api.Addr {
	return p.vips[p.random.IntN(len(p.vips))]
}

func (p *pool) dip() api.Addr {
	return dip(17 * p.random.IntN(p.machines) % 128)
}

func (p *pool) service() api.Command {
	c := serve(p.vip(), []int{api.TCP, api.UDP}[p.random.IntN(2)], 1+p.random.IntN(p.ports))
	if p.random.IntN(4) > 0 {
		c.Service.Ends = ends(p.random.IntN(60), 1+p.random.IntN(5))
	}
	return c
}

func (p *pool) command() api.Command {
	p.time += max(0, p.random.IntN(p.pace)-p.random.IntN(p.pace))
	if bad := notCommands(); p.random.IntN(p.faults) == 0 {
		return bad[p.random.IntN(len(bad))]
	}
	var c api.Command
	switch p.random.IntN(12) {
	case 0, 1, 2:
		c = p.service()
	case 3, 4:
		c = open(p.dip(), p.vip())
	case 5:
		c = shut(p.dip())
	case 6:
		c = heal(p.dip())
	case 7:
		c = hurt(p.dip())
	default:
		c = ask(p.dip())
	}
	c.Node, c.Boot, c.Seq = 16+p.random.IntN(8), p.random.IntN(9), p.random.IntN(99)
	return at(max(0, p.time-p.random.IntN(9)), c)
}

func (p *pool) log(n int) []api.Command {
	var log []api.Command
	for range n {
		log = append(log, p.command())
	}
	return log
}

func TestManyLogs(t *testing.T) {
	for seed := range uint64(60) {
		p := newPool(seed)
		s := begin(t)
		for range 150 {
			s.follows(p.command())
			answersOf(t, s.config, s.ledger)
		}
	}
}

// answersOf holds what is told of a folded configuration against the ledger.
func answersOf(t *testing.T, c api.Config, g *ledger) {
	t.Helper()
	for n := range 10 {
		who := dip(17 * n % 128)
		vip, ok := g.snats[who]
		outside(t, c, who, vip, ok)
	}
	vips := map[api.Addr]bool{}
	for p, ends := range g.services {
		vips[p.vip] = true
		s := api.Service{Vip: p.vip, Proto: p.proto, Port: p.port, Ends: ends}
		found(t, c, s)
		well := slices.DeleteFunc(slices.Clone(ends), func(e api.End) bool { return g.sick[e.Dip] })
		healthy(t, c, s, well...)
		f := api.Flow{Proto: p.proto, Src: dip(3), SrcPort: 9, Dst: p.vip, DstPort: p.port}
		for _, e := range ends {
			allowed(t, c, f, e.Dip, e, !g.sick[e.Dip])
		}
		allowed(t, c, f, dip(127), api.End{}, false)
	}
	for _, vip := range g.snats {
		vips[vip] = true
	}
	for b := range g.lent {
		vips[b.vip] = true
	}
	var rising []api.Addr
	for _, vip := range []api.Addr{vipA, vipB, vipC, 0xdfffffff} {
		if vips[vip] {
			rising = append(rising, vip)
		}
	}
	hasVips(t, c, rising...)
}

// P16.2

func TestBeginningsOfLogs(t *testing.T) {
	for seed := range uint64(30) {
		log := newPool(1000 + seed).log(120)
		whole, results := state.Fold(log...)
		if whole.Epoch != len(log) || len(results) != len(log) {
			t.Fatalf("%d commands: Epoch %d, %d results", len(log), whole.Epoch, len(results))
		}
		for n := range log {
			c, some := state.Fold(log[:n]...)
			if c.Epoch != n || !slices.Equal(some, results[:n]) {
				t.Fatalf("the first %d: Epoch %d, results %s, want %s", n, c.Epoch, short(some), short(results[:n]))
			}
		}
	}
}

// P16.3

type port struct {
	vip  api.Addr
	port int
}

// byPorts is a configuration's leases, port by port; no port may be in two of them.
func byPorts(t *testing.T, c api.Config) map[port]api.Lease {
	t.Helper()
	ports := map[port]api.Lease{}
	for _, l := range c.Leases {
		for i := range 8 {
			p := port{l.Vip, l.First + i}
			if twin, there := ports[p]; there {
				t.Fatalf("%v and %v are of one block", l, twin)
			}
			ports[p] = l
		}
	}
	return ports
}

func TestOneMachineAPort(t *testing.T) {
	for seed := range uint64(60) {
		p := newPool(2000 + seed)
		// A machine alone would have no other's block to take.
		p.machines = 2 + int(seed)%7
		log := p.log(150)
		var before map[port]api.Lease
		for n := range log {
			c, results := state.Fold(log[:n+1]...)
			after := byPorts(t, c)
			for p, l := range before {
				if l.Expires < c.Now {
					continue
				}
				if now, there := after[p]; !there || now.Dip != l.Dip || now.First != l.First || now.Expires < l.Expires {
					t.Fatalf("behind %+v: the port %v of %v is that of %v", log[n], p, l, now)
				}
			}
			if l := results[n].Lease; l != (api.Lease{}) {
				if log[n].Kind != api.CLease || l.Dip != log[n].Dip || l.Expires != c.Now+64 || after[port{l.Vip, l.First}] != l {
					t.Fatalf("behind %+v: %v, but there are %v", log[n], l, c.Leases)
				}
			}
			if err := lease.Check(c.Leases); err != nil {
				t.Fatalf("%v: %v", err, c.Leases)
			}
			before = after
		}
	}
}

// P16.1: what is told of configurations

func found(t *testing.T, c api.Config, want api.Service) {
	t.Helper()
	if got, ok := state.Service(c, want.Vip, want.Proto, want.Port); !ok || text(got) != text(want) {
		t.Fatalf("Service(%s, %v, %d, %d) = %v, %v, want %v", short(c), want.Vip, want.Proto, want.Port, got, ok, want)
	}
}

func notFound(t *testing.T, c api.Config, vip api.Addr, proto, port int) {
	t.Helper()
	if got, ok := state.Service(c, vip, proto, port); ok || text(got) != text(api.Service{}) {
		t.Fatalf("Service(%s, %v, %d, %d) = %v, %v, want none", short(c), vip, proto, port, got, ok)
	}
}

func healthy(t *testing.T, c api.Config, s api.Service, want ...api.End) {
	t.Helper()
	if got := state.Healthy(c, s); !slices.Equal(got, want) {
		t.Fatalf("Healthy(%s, %v) = %v, want %v", short(c), s, got, want)
	}
}

// allowed wants an end, if ok; else none.
func allowed(t *testing.T, c api.Config, f api.Flow, dip api.Addr, want api.End, ok bool) {
	t.Helper()
	if !ok {
		want = api.End{}
	}
	if got, gotOk := state.Allowed(c, f, dip); got != want || gotOk != ok {
		t.Fatalf("Allowed(%s, %v, %v) = %v, %v, want %v, %v", short(c), f, dip, got, gotOk, want, ok)
	}
}

func outside(t *testing.T, c api.Config, dip, want api.Addr, ok bool) {
	t.Helper()
	if got, gotOk := state.Outside(c, dip); got != want || gotOk != ok {
		t.Fatalf("Outside(%s, %v) = %v, %v, want %v, %v", short(c), dip, got, gotOk, want, ok)
	}
}

func hasVips(t *testing.T, c api.Config, want ...api.Addr) {
	t.Helper()
	if got := state.Vips(c); !slices.Equal(got, want) {
		t.Fatalf("Vips(%s) = %v, want %v", short(c), got, want)
	}
}

// odd is a configuration that no log comes to: nothing is in an order, and much is there twice.
func odd() api.Config {
	return api.Config{
		Epoch: -3,
		Now:   math.MinInt,
		Services: []api.Service{
			{Vip: vipB, Proto: api.TCP, Port: 80, Ends: []api.End{end(4, 1, 1)}},
			{Vip: vipA, Proto: api.TCP, Port: 80, Ends: []api.End{end(1, 1, 1), end(2, 2, 2), end(1, 3, 3), end(2, 4, 4), {}}},
			{Vip: vipA, Proto: api.TCP, Port: 80, Ends: []api.End{end(3, 5, 5)}},
			{Vip: vipA, Proto: api.UDP, Port: 80},
			{Vip: vipA, Proto: api.UDP, Port: 80, Ends: []api.End{end(3, 6, 6)}},
			{Vip: 0, Proto: -1, Port: math.MaxInt, Ends: []api.End{{Dip: vipA, Port: -1, Weight: -1}, {Dip: 0}}},
			{},
		},
		Snats:  []api.Snat{snat(dip(5), vipC), snat(dip(2), vipB), snat(dip(2), vipA), snat(0, 7), snat(dip(6), 0)},
		Sick:   []api.Addr{dip(9), dip(2), 7, dip(9), dip(2), dip(0)},
		Leases: []api.Lease{let(vipC, 5, 5, 5), let(9, -1, 0, -1), let(vipA, 1024, dip(1), 0), {Vip: math.MaxUint32}},
	}
}

func TestServiceOfAnyConfiguration(t *testing.T) {
	c := odd()
	for i, s := range c.Services {
		if i != 2 && i != 4 {
			found(t, c, s)
		}
	}
	found(t, api.Config{Services: c.Services[2:]}, c.Services[2])
	found(t, api.Config{Services: c.Services[4:]}, c.Services[4])
	notFound(t, c, vipB, api.UDP, 80)
	notFound(t, c, vipB, api.TCP, 81)
	notFound(t, c, vipC, api.TCP, 80)
	notFound(t, c, vipA, 0, 80)
	notFound(t, c, vipA, api.TCP, 0)
	notFound(t, c, 0, api.TCP, 80)
	notFound(t, c, 0, math.MinInt, 0)
	notFound(t, c, 0, 1<<32, 0)
	notFound(t, c, vipB, api.TCP, 1<<32+80)
	notFound(t, c, vipB, 256+api.TCP, 80)
	notFound(t, api.Config{Services: c.Services[:6]}, 0, 0, 0)
	notFound(t, api.Config{}, 0, 0, 0)
	notFound(t, api.Config{}, vipA, api.TCP, 80)
}

func TestHealthyOfAnyConfiguration(t *testing.T) {
	c := odd()
	healthy(t, c, c.Services[0], end(4, 1, 1))
	healthy(t, c, c.Services[1], end(1, 1, 1), end(1, 3, 3), api.End{})
	healthy(t, c, c.Services[3])
	healthy(t, c, c.Services[5], c.Services[5].Ends...)
	healthy(t, c, api.Service{})
	// The service needn't be one of the configuration's.
	healthy(t, c, api.Service{Ends: []api.End{end(0, 1, 1), end(9, 1, 1), end(7, 1, 1), end(2, 1, 1), {Dip: 7}}}, end(7, 1, 1))
	healthy(t, c, api.Service{Ends: []api.End{end(2, 1, 1), end(2, 1, 1)}})
	healthy(t, api.Config{}, c.Services[1], c.Services[1].Ends...)
	c.Sick = append(c.Sick, 0, dip(1))
	healthy(t, c, c.Services[1])
}

func TestAllowedOfAnyConfiguration(t *testing.T) {
	c := odd()
	flow := func(proto int, dst api.Addr, port int) api.Flow {
		return api.Flow{Proto: proto, Src: 9, SrcPort: -9, Dst: dst, DstPort: port}
	}
	web := flow(api.TCP, vipA, 80)
	allowed(t, c, web, dip(1), end(1, 1, 1), true)
	allowed(t, c, web, 0, api.End{}, true)
	// Sick, another service's, and no machine at all.
	for _, who := range []api.Addr{dip(2), dip(3), dip(4), dip(9), dip(0), 7, vipA, math.MaxUint32} {
		allowed(t, c, web, who, api.End{}, false)
	}
	allowed(t, c, flow(api.TCP, vipB, 80), dip(4), end(4, 1, 1), true)
	allowed(t, c, flow(api.UDP, vipA, 80), dip(3), api.End{}, false)
	allowed(t, c, flow(-1, 0, math.MaxInt), vipA, api.End{Dip: vipA, Port: -1, Weight: -1}, true)
	allowed(t, c, flow(-1, 0, math.MaxInt), 0, api.End{}, true)
	for _, f := range []api.Flow{flow(api.UDP, vipB, 80), flow(api.TCP, vipB, 81), flow(api.TCP, vipC, 80), {}, flow(0, 0, 0)} {
		for _, who := range []api.Addr{dip(1), dip(3), dip(4), 0, vipA} {
			allowed(t, c, f, who, api.End{}, false)
		}
	}
	// A flow goes to a service by its Dst, not by its Src.
	allowed(t, c, api.Flow{Proto: api.TCP, Src: vipA, SrcPort: 80, Dst: vipC, DstPort: 80}, dip(1), api.End{}, false)
	allowed(t, c, api.Flow{Proto: api.TCP, Src: vipC, SrcPort: 1, Dst: vipA, DstPort: 80}, dip(1), end(1, 1, 1), true)
	allowed(t, api.Config{}, web, dip(1), api.End{}, false)
	allowed(t, api.Config{}, api.Flow{}, 0, api.End{}, false)
	c.Sick = nil
	allowed(t, c, web, dip(2), end(2, 2, 2), true)
}

func TestOutsideOfAnyConfiguration(t *testing.T) {
	c := odd()
	outside(t, c, dip(5), vipC, true)
	outside(t, c, dip(2), vipB, true)
	outside(t, c, 0, 7, true)
	outside(t, c, dip(6), 0, true)
	for _, who := range []api.Addr{dip(1), 7, vipA, vipC, math.MaxUint32} {
		outside(t, c, who, 0, false)
	}
	outside(t, api.Config{}, 0, 0, false)
	outside(t, api.Config{}, dip(1), 0, false)
}

func TestVipsOfAnyConfiguration(t *testing.T) {
	c := odd()
	hasVips(t, c, 0, 7, 9, vipA, vipB, vipC, math.MaxUint32)
	hasVips(t, api.Config{Services: c.Services}, 0, vipA, vipB)
	hasVips(t, api.Config{Snats: c.Snats}, 0, 7, vipA, vipB, vipC)
	hasVips(t, api.Config{Leases: c.Leases}, 9, vipA, vipC, math.MaxUint32)
	hasVips(t, api.Config{Sick: c.Sick})
	hasVips(t, api.Config{})
	hasVips(t, api.Config{Services: c.Services[:1], Snats: c.Snats[1:2]}, vipB)
	hasVips(t, api.Config{Snats: c.Snats[:1], Leases: c.Leases[:1]}, vipC)
}

// Ends and sick machines may be more than any service has: each is looked at, and none for long.
func TestGreatLists(t *testing.T) {
	var c api.Config
	var s, well api.Service
	for i := range 300000 {
		e := api.End{Dip: api.Addr(i), Port: i, Weight: i}
		s.Ends = append(s.Ends, e)
		if i%3 == 0 {
			well.Ends = append(well.Ends, e)
		} else {
			c.Sick = append(c.Sick, e.Dip)
		}
		c.Snats = append(c.Snats, api.Snat{Dip: e.Dip, Vip: api.Addr(300000 - i)})
	}
	slices.Reverse(c.Sick)
	c.Services = []api.Service{s}
	healthy(t, c, s, well.Ends...)
	for _, i := range []int{0, 1, 150000, 299997, 299998} {
		allowed(t, c, api.Flow{}, api.Addr(i), s.Ends[i], i%3 == 0)
		outside(t, c, api.Addr(i), api.Addr(300000-i), true)
	}
	if vips := state.Vips(c); len(vips) != 300001 || vips[0] != 0 || vips[1] != 1 || vips[300000] != 300000 {
		t.Errorf("%d vips", len(vips))
	}
}

// unlike are configurations of which each is another one.
func unlike() []api.Config {
	list := []api.Config{{}, {Epoch: 1}, {Now: 1}, {Sick: []api.Addr{0}}, {Snats: []api.Snat{{}}}, {Leases: []api.Lease{{}}}, {Services: []api.Service{{}}}}
	list = append(list, odd())
	changes := []func(c *api.Config){
		func(c *api.Config) { c.Epoch++ },
		func(c *api.Config) { c.Epoch += 1 << 32 },
		func(c *api.Config) { c.Now++ },
		func(c *api.Config) { c.Epoch, c.Now = c.Now, c.Epoch },
		func(c *api.Config) { c.Services[0].Vip++ },
		func(c *api.Config) { c.Services[1].Proto++ },
		func(c *api.Config) { c.Services[2].Port++ },
		func(c *api.Config) { c.Services[3].Ends = []api.End{{}} },
		func(c *api.Config) { c.Services[1].Ends[1].Dip++ },
		func(c *api.Config) { c.Services[1].Ends[2].Port++ },
		func(c *api.Config) { c.Services[1].Ends[3].Weight++ },
		func(c *api.Config) { c.Services[1].Ends = c.Services[1].Ends[:4] },
		func(c *api.Config) { c.Services[1].Ends = c.Services[1].Ends[1:] },
		func(c *api.Config) { c.Services[1].Ends = nil },
		func(c *api.Config) { slices.Reverse(c.Services[1].Ends) },
		func(c *api.Config) { slices.Reverse(c.Services) },
		func(c *api.Config) { c.Services = c.Services[:6] },
		func(c *api.Config) { c.Services = c.Services[1:] },
		func(c *api.Config) { c.Services = append(c.Services, api.Service{}) },
		func(c *api.Config) { c.Services = nil },
		func(c *api.Config) { c.Snats[0].Dip++ },
		func(c *api.Config) { c.Snats[4].Vip++ },
		func(c *api.Config) { slices.Reverse(c.Snats) },
		func(c *api.Config) { c.Snats = c.Snats[:4] },
		func(c *api.Config) { c.Snats = append(c.Snats, api.Snat{}) },
		func(c *api.Config) { c.Snats = nil },
		func(c *api.Config) { c.Sick[0]++ },
		func(c *api.Config) { c.Sick[5]++ },
		func(c *api.Config) { slices.Reverse(c.Sick) },
		func(c *api.Config) { c.Sick = c.Sick[1:] },
		func(c *api.Config) { c.Sick = append(c.Sick, 0) },
		func(c *api.Config) { c.Sick = nil },
		func(c *api.Config) { c.Leases[0].Vip++ },
		func(c *api.Config) { c.Leases[1].First++ },
		func(c *api.Config) { c.Leases[2].Dip++ },
		func(c *api.Config) { c.Leases[3].Expires++ },
		func(c *api.Config) { slices.Reverse(c.Leases) },
		func(c *api.Config) { c.Leases = c.Leases[:3] },
		func(c *api.Config) { c.Leases = append(c.Leases, api.Lease{}) },
		func(c *api.Config) { c.Leases = nil },
	}
	for _, change := range changes {
		c := odd()
		change(&c)
		list = append(list, c)
	}
	return list
}

func TestSame(t *testing.T) {
	twins := unlike()
	for i, a := range unlike() {
		for j, b := range twins {
			if got := state.Same(a, b); got != (i == j) {
				t.Errorf("Same(%v, %v) = %v", a, b, got)
			}
		}
	}
}

func TestSameOfEmptyLists(t *testing.T) {
	empty := api.Config{Services: []api.Service{}, Snats: []api.Snat{}, Sick: []api.Addr{}, Leases: []api.Lease{}}
	bare, full := odd(), odd()
	bare.Services[3].Ends, full.Services[3].Ends = nil, []api.End{}
	if !state.Same(api.Config{}, empty) || !state.Same(empty, api.Config{}) || !state.Same(bare, full) || !state.Same(full, bare) {
		t.Errorf("nil and empty lists aren't the same")
	}
}

func TestSameOfFoldedLogs(t *testing.T) {
	log := newPool(7).log(100)
	for n := range log {
		one, _ := state.Fold(log[:n]...)
		two, _ := state.Fold(log[:n]...)
		more, _ := state.Fold(log[:n+1]...)
		if !state.Same(one, two) || state.Same(one, more) || state.Same(more, one) {
			t.Fatalf("%v, %v, %v", one, two, more)
		}
	}
}

// P16.4

// rich is a log that comes to some of everything, and its commands with spare room behind their ends.
func rich() []api.Command {
	twice := append(make([]api.End, 0, 9), ends(0, 3)...)
	return []api.Command{
		serve(vipA, api.TCP, 80, twice...),
		serve(vipB, api.TCP, 80, twice...),
		serve(vipA, api.UDP, 53, append(make([]api.End, 0, 9), ends(5, 2)...)...),
		open(dip(1), vipA),
		open(dip(2), vipC),
		hurt(dip(1)),
		hurt(dip(9)),
		ask(dip(1)),
		ask(dip(2)),
		serve(vipC, api.TCP, 80),
		{},
	}
}

// blot writes over all that a configuration's lists hold, spare room included.
func blot(c api.Config) {
	for i := range c.Services {
		blotEnds(c.Services[i].Ends)
		c.Services[i] = api.Service{Vip: 7, Ends: ends(90, 1)}
	}
	for i := range c.Snats[:cap(c.Snats)] {
		c.Snats[:cap(c.Snats)][i] = api.Snat{Dip: 7, Vip: 7}
	}
	for i := range c.Sick[:cap(c.Sick)] {
		c.Sick[:cap(c.Sick)][i] = 7
	}
	for i := range c.Leases[:cap(c.Leases)] {
		c.Leases[:cap(c.Leases)][i] = let(7, 7, 7, 7)
	}
}

func blotEnds(list []api.End) {
	list = list[:cap(list)]
	for i := range list {
		list[i] = end(7, 7, 7)
	}
}

func TestFoldLeavesTheLogAsItIs(t *testing.T) {
	log := rich()
	room := append(slices.Clone(log), hurt(dip(77)), ask(dip(77)))
	roomBefore, logBefore := text(room), text(log)
	c, results := state.Fold(room[:len(log)]...)
	if text(room) != roomBefore {
		t.Errorf("Fold changed the log")
	}
	if got, _ := state.Fold(log...); text(got) != text(c) || text(log) != logBefore {
		t.Errorf("Fold changed the log")
	}
	config, told := text(c), text(results)
	for i := range room {
		blotEnds(room[i].Service.Ends)
		room[i] = api.Command{}
	}
	if text(c) != config || text(results) != told {
		t.Errorf("Fold keeps the log: %v", c)
	}
}

func TestFoldAnswersNewMemory(t *testing.T) {
	log := rich()
	before := text(log)
	c, results := state.Fold(log...)
	config, told := text(c), text(results)
	blot(c)
	for i := range results {
		results[i] = failed(99)
	}
	if text(log) != before {
		t.Errorf("an answer shares memory with the log: %v", log)
	}
	if again, toldAgain := state.Fold(log...); text(again) != config || text(toldAgain) != told {
		t.Errorf("asked once more: %v %v, want %v %v", again, toldAgain, config, told)
	}
}

// Two services of one list of ends have lists of their own, as far as their spare room.
func TestTheListsOfAnAnswerShareNone(t *testing.T) {
	c, _ := state.Fold(rich()...)
	for i := range c.Services {
		before := text(c.Services)
		own := c.Services[i].Ends
		older := slices.Clone(own)
		_ = append(own, end(1, 1, 1), end(2, 2, 2))
		if text(c.Services) != before {
			t.Errorf("%v, want %v", c.Services, before)
		}
		blotEnds(own)
		for j := range c.Services {
			if j != i && slices.Contains(c.Services[j].Ends, end(7, 7, 7)) {
				t.Errorf("%v and %v share ends", c.Services[i], c.Services[j])
			}
		}
		copy(own, older)
	}
}

func TestWhatIsHandedInStaysAsItIs(t *testing.T) {
	web := api.Flow{Proto: api.TCP, Dst: vipA, DstPort: 80}
	calls := map[string]func(c api.Config) any{
		"Service":       func(c api.Config) any { s, _ := state.Service(c, vipA, api.TCP, 80); return s.Ends },
		"Service, none": func(c api.Config) any { s, _ := state.Service(c, vipC, api.TCP, 80); return s.Ends },
		"Healthy":       func(c api.Config) any { return state.Healthy(c, c.Services[1]) },
		"Healthy, all":  func(c api.Config) any { return state.Healthy(c, c.Services[0]) },
		"Allowed":       func(c api.Config) any { state.Allowed(c, web, dip(1)); return nil },
		"Outside":       func(c api.Config) any { state.Outside(c, dip(2)); return nil },
		"Vips":          func(c api.Config) any { return state.Vips(c) },
		"Same":          func(c api.Config) any { state.Same(c, odd()); state.Same(odd(), c); return nil },
	}
	for name, call := range calls {
		c := odd()
		c.Services[1].Ends = append(make([]api.End, 0, 20), c.Services[1].Ends...)
		answer := call(c)
		if text(c) != text(odd()) {
			t.Errorf("%s changed what it was handed: %v", name, c)
		}
		want := text(answer)
		blot(c)
		if text(answer) != want {
			t.Errorf("%s keeps what it was handed", name)
		}
		again := odd()
		answer = call(again)
		switch list := answer.(type) {
		case []api.End:
			blotEnds(list)
		case []api.Addr:
			blot(api.Config{Sick: list})
		}
		if text(again) != text(odd()) {
			t.Errorf("a change of what %s answered changed what it was handed: %v", name, again)
		}
		if got := text(call(again)); got != want {
			t.Errorf("%s, asked once more: %v, want %v", name, got, want)
		}
	}
}
