package manager_test

import (
	"errors"
	"fmt"
	"math"
	"math/rand/v2"
	"slices"
	"testing"

	"towpath/api"
	"towpath/manager"
	"towpath/stable"
	"towpath/vote"
)

const (
	vipA api.Addr = 0x01010101
	vipB api.Addr = 0x02020202

	lastTime = 1 << 40
	someSize = 1 << 22
)

var (
	oddNumbers = []int{-1, 9, 10, 16, 255, 256, 256 + 3, 1<<32 + 1, math.MaxInt, math.MinInt, math.MinInt + 1}

	// others is who is neither a manager nor a host.
	others = []int{-1, 0, 1, 15, 24, 31, 32, 33, 39, 40, 47, 56, 255, 256 + 16, 256 + 48, 1<<32 + 16, 1<<32 + 48, math.MaxInt, math.MinInt}
)

func dip(n int) api.Addr {
	return 0x0a010000 + api.Addr(n/16)<<8 + api.Addr(n%16)
}

func ballot(n, node int) api.Ballot {
	return api.Ballot{N: n, Node: node}
}

func ends(n int) []api.End {
	var list []api.End
	for i := range n {
		list = append(list, api.End{Dip: dip(i), Port: 8080 + i, Weight: 1 + i%16})
	}
	return list
}

func serve(vip api.Addr, proto, port int, ends ...api.End) api.Command {
	return api.Command{Kind: api.CService, Service: api.Service{Vip: vip, Proto: proto, Port: port, Ends: ends}}
}

func open(n int, vip api.Addr) api.Command {
	return api.Command{Kind: api.CSnat, Dip: dip(n), Vip: vip, Up: true}
}

func shut(n int) api.Command {
	return api.Command{Kind: api.CSnat, Dip: dip(n)}
}

func heal(n int) api.Command {
	return api.Command{Kind: api.CHealth, Dip: dip(n), Up: true}
}

func hurt(n int) api.Command {
	return api.Command{Kind: api.CHealth, Dip: dip(n)}
}

func lend(n int) api.Command {
	return api.Command{Kind: api.CLease, Dip: dip(n)}
}

// sayings is what commands may say, no two alike.
func sayings() []api.Command {
	turned := ends(2)
	slices.Reverse(turned)
	return []api.Command{
		serve(vipA, api.TCP, 80, ends(2)...), serve(vipB, api.TCP, 80, ends(2)...), serve(vipA, api.UDP, 80, ends(2)...),
		serve(vipA, api.TCP, 81, ends(2)...), serve(vipA, api.TCP, 80, turned...), serve(vipA, api.TCP, 80, ends(1)...),
		serve(vipA, api.TCP, 80, ends(3)...), serve(vipA, api.TCP, 80), serve(vipB, api.UDP, 80),
		serve(vipA, api.TCP, 80, api.End{Dip: dip(0), Port: 8080, Weight: 2}), serve(vipA, api.TCP, 80, api.End{Dip: dip(0), Port: 81, Weight: 1}),
		open(1, vipA), open(1, vipB), open(2, vipA), shut(1), shut(2),
		heal(1), heal(2), hurt(1), hurt(2), lend(1), lend(2),
	}
}

// notSayings are what no command says, each by another fault.
func notSayings() []api.Command {
	return []api.Command{
		{}, {Kind: api.CLease}, {Dip: dip(1)}, {Kind: 5, Dip: dip(1)}, {Kind: -4, Dip: dip(1)}, {Kind: math.MaxInt, Dip: dip(1)},
		serve(dip(1), api.TCP, 80, ends(1)...), serve(vipA, 1, 80, ends(1)...), serve(vipA, api.TCP, 0), serve(vipA, api.TCP, 1024, ends(1)...),
		serve(vipA, api.TCP, 80, ends(65)...), serve(vipA, api.TCP, 80, api.End{}), serve(vipA, api.TCP, 80, append(ends(1), ends(1)...)...),
		open(1, 0), open(1, dip(1)), {Kind: api.CSnat, Dip: dip(1), Vip: vipA}, {Kind: api.CSnat, Dip: vipA},
		{Kind: api.CHealth, Dip: vipA}, {Kind: api.CHealth, Dip: dip(1), Vip: vipA}, {Kind: api.CHealth, Dip: 0x0a010010},
		{Kind: api.CLease, Dip: dip(1), Up: true}, {Kind: api.CLease, Dip: 0x0a010800},
		{Kind: api.CLease, Dip: dip(1), Service: api.Service{Ends: ends(1)}},
	}
}

// by is a command as a manager gives it.
func by(c api.Command, node, boot, seq, time int) api.Command {
	c.Node, c.Boot, c.Seq, c.Time = node, boot, seq, time
	return c
}

// some is a log of so many commands of the manager 20, which begins as every longer one does.
func some(n int) []api.Command {
	var log []api.Command
	for i := range n {
		log = append(log, by(sayings()[i%22], 20, i/100, i, 3*i))
	}
	return log
}

func msg(kind int, nums ...int) api.Msg {
	return api.Msg{Kind: kind, Nums: nums}
}

func withLog(x api.Msg, log []api.Command) api.Msg {
	x.Data, _ = vote.Write(log)
	return x
}

// prepare, accept, promise, accepted, refused, config and grant are messages.
func prepare(b api.Ballot) api.Msg {
	return msg(api.MPrepare, b.N, b.Node)
}

func accept(b api.Ballot, log ...api.Command) api.Msg {
	return withLog(msg(api.MAccept, b.N, b.Node), log)
}

func promise(b, accepted api.Ballot, log ...api.Command) api.Msg {
	return withLog(msg(api.MPromise, b.N, b.Node, accepted.N, accepted.Node), log)
}

func accepted(b api.Ballot) api.Msg {
	return msg(api.MAccepted, b.N, b.Node)
}

func refused(b, by api.Ballot) api.Msg {
	return msg(api.MRefused, b.N, b.Node, by.N, by.Node)
}

func config(log ...api.Command) api.Msg {
	return withLog(msg(api.MConfig, len(log)), log)
}

func grant(n int, vip api.Addr, first, expires int) api.Msg {
	return msg(api.MGrant, int(dip(n)), int(vip), first, expires)
}

// to is a message, posted to each of some nodes.
func to(x api.Msg, nodes ...int) []api.Post {
	var list []api.Post
	for _, node := range nodes {
		list = append(list, api.Post{To: node, Ctl: true, Msg: x})
	}
	return list
}

func join(lists ...[]api.Post) []api.Post {
	return slices.Concat(lists...)
}

// text is a value as it is printed: lists without anything are the same, nil or not.
func text(value any) string {
	return fmt.Sprint(value)
}

func short(value any) string {
	return fmt.Sprintf("%.500s", text(value))
}

// A desk is a manager, and whoever looks what it does.
type desk struct {
	*manager.Manager
	t     *testing.T
	store *stable.Store
	place int
	n     int
}

// stored is a store in which something stands, and is synced.
func stored(t *testing.T, size int, rows map[string][]byte) *stable.Store {
	t.Helper()
	s, err := stable.New(size)
	for key, row := range rows {
		err = errors.Join(err, s.Put(key, row))
	}
	if err != nil {
		t.Fatal(err)
	}
	s.Sync()
	return s
}

func begunWith(t *testing.T, place, n, muxes, hosts int, s *stable.Store) *desk {
	t.Helper()
	m, err := manager.New(place, n, muxes, hosts, s)
	if err != nil || m == nil {
		t.Fatalf("New(%d, %d, %d, %d) = %v, %v", place, n, muxes, hosts, m, err)
	}
	return &desk{m, t, s, place, n}
}

func begun(t *testing.T, place, n int) *desk {
	t.Helper()
	return begunWith(t, place, n, 2, 1, stored(t, someSize, nil))
}

// knowing is the receivers of what a desk's manager tells of its log.
var knowing = []int{32, 33, 48}

// posts wants what was posted, all of it, and once.
func (d *desk) posts(want ...api.Post) {
	d.t.Helper()
	if got := d.Out(); text(got) != text(want) {
		d.t.Fatalf("it posted %s, want %s", short(got), short(want))
	}
	if got := d.Out(); got != nil {
		d.t.Fatalf("it told %s twice", short(got))
	}
}

func (d *desk) works(want bool) {
	d.t.Helper()
	if got := d.Busy(); got != want {
		d.t.Fatalf("Busy() = %v, want %v", got, want)
	}
}

// idles wants nothing posted, and no job.
func (d *desk) idles() {
	d.t.Helper()
	d.posts()
	d.works(false)
}

func (d *desk) knows(log ...api.Command) {
	d.t.Helper()
	for range 2 {
		if got := d.Learned(); text(got) != text(log) {
			d.t.Fatalf("it learned %s, want %s", short(got), short(log))
		}
	}
}

// promised wants a promise, by way of a message that asks for a lesser one.
func (d *desk) promised(want api.Ballot) {
	d.t.Helper()
	d.Out()
	low := ballot(1, 16)
	d.Receive(19, prepare(low))
	if want == low {
		d.posts(to(promise(low, api.Ballot{}), 19)...)
		return
	}
	d.posts(to(refused(low, want), 19)...)
}

// A peer answers what managers ask of it, as a manager does.
type peer struct {
	voter *vote.Voter
	node  int
	asked []int
}

func newPeer(t *testing.T, node int) *peer {
	t.Helper()
	v, err := vote.Open(stored(t, someSize, nil), node)
	if err != nil {
		t.Fatal(err)
	}
	return &peer{voter: v, node: node}
}

// answers has the peer answer until nothing is asked of it any more; what goes to muxes and hosts is handed back.
func (p *peer) answers(d *desk) []api.Post {
	d.t.Helper()
	var rest []api.Post
	for posts := d.Out(); len(posts) > 0; posts = d.Out() {
		for _, post := range posts {
			if post.To == p.node {
				p.hears(d, post.Msg)
			} else if post.To >= api.Muxes {
				rest = append(rest, post)
			}
		}
	}
	return rest
}

func (p *peer) hears(d *desk, x api.Msg) {
	b := ballot(x.Nums[0], x.Nums[1])
	switch x.Kind {
	case api.MPrepare:
		p.asked = append(p.asked, b.N)
		if before, log, err := p.voter.Prepare(b); err == nil {
			d.Receive(p.node, promise(b, before, log...))
		}
	case api.MAccept:
		if log, err := vote.Read(x.Data); err == nil && p.voter.Accept(b, log) == nil {
			d.Receive(p.node, accepted(b))
		}
	}
}

// rounds wants that the peer was asked for a promise so often.
func (p *peer) rounds(t *testing.T, want int) {
	t.Helper()
	if len(p.asked) != want {
		t.Fatalf("the peer was asked for the ballots %v, want %d of them", p.asked, want)
	}
}

// P17.1

func TestExampleOfOne(t *testing.T) {
	d := begun(t, 0, 1)
	d.Submit(heal(1))
	c := by(heal(1), 16, 0, 1, 0)
	d.knows(c)
	d.works(false)
	d.posts(to(config(c), 32, 33, 48)...)
}

func TestExampleOfThree(t *testing.T) {
	d := begun(t, 0, 3)
	d.Submit(heal(1))
	b, c := ballot(1, 16), by(heal(1), 16, 0, 1, 0)
	d.posts(to(prepare(b), 17, 18)...)
	d.works(true)
	d.Receive(18, promise(b, api.Ballot{}))
	d.posts(to(accept(b, c), 17, 18)...)
	d.works(true)
	d.knows()
	d.Receive(17, accepted(b))
	d.posts(to(config(c), 32, 33, 48)...)
	d.works(false)
	d.knows(c)
}

func notBegun(t *testing.T, want error, place, n, muxes, hosts int, s *stable.Store) {
	t.Helper()
	if m, err := manager.New(place, n, muxes, hosts, s); m != nil || !errors.Is(err, want) {
		t.Fatalf("New(%d, %d, %d, %d) = %v, %v, want %v", place, n, muxes, hosts, m, err, want)
	}
}

func TestNewRefusesOtherNumbers(t *testing.T) {
	good := stored(t, someSize, nil)
	bad := stored(t, someSize, map[string][]byte{"promise": {1}})
	for _, s := range []*stable.Store{good, bad, nil} {
		for _, n := range oddNumbers {
			notBegun(t, api.ErrNode, 0, n, 2, 2, s)
			notBegun(t, api.ErrNode, 1, 3, n, 2, s)
			notBegun(t, api.ErrNode, 1, 3, 2, n, s)
			notBegun(t, api.ErrNode, n, 8, 2, 2, s)
		}
		notBegun(t, api.ErrNode, 0, 0, 2, 2, s)
		for n := 1; n <= 8; n++ {
			for place := n; place < 10; place++ {
				notBegun(t, api.ErrNode, place, n, 2, 2, s)
			}
		}
	}
}

func TestNewRefusesOtherStores(t *testing.T) {
	notBegun(t, api.ErrForm, 0, 1, 0, 0, nil)
	row, _ := vote.Write(some(2))
	rows := []map[string][]byte{{"promise": {1}}, {"vote": row}, {"promise": make([]byte, 16)}, {"vote": nil}}
	for _, r := range rows {
		notBegun(t, api.ErrMessage, 0, 1, 0, 0, stored(t, someSize, r))
	}
}

func TestNewIsUpAndHasNothing(t *testing.T) {
	for n := 1; n <= 8; n++ {
		for place := range n {
			for count := range 81 {
				d := begunWith(t, place, n, count/9, count%9, stored(t, 0, nil))
				if !d.Up() || d.Boot() != 0 {
					t.Fatalf("Up() = %v, Boot() = %d", d.Up(), d.Boot())
				}
				d.idles()
				d.knows()
			}
		}
	}
}

// What a voter wrote down earlier stands in the store; what was learned doesn't.
func TestNewTakesUpItsStore(t *testing.T) {
	s := stored(t, someSize, nil)
	v, _ := vote.Open(s, 17)
	v.Accept(ballot(6, 18), some(2))
	v.Prepare(ballot(7, 17))
	d := begunWith(t, 1, 3, 1, 1, s)
	d.knows()
	d.Receive(16, prepare(ballot(7, 16)))
	d.posts(to(refused(ballot(7, 16), ballot(7, 17)), 16)...)
	d.Submit(heal(1))
	d.posts(to(prepare(ballot(8, 17)), 16, 18)...)
	d.Receive(16, promise(ballot(8, 17), api.Ballot{}))
	d.posts(to(accept(ballot(8, 17), append(some(2), by(heal(1), 17, 0, 1, 0))...), 16, 18)...)
}

func TestANilManager(t *testing.T) {
	var m *manager.Manager
	for range 2 {
		m.Submit(heal(1))
		m.Receive(17, prepare(ballot(1, 17)))
		m.Receive(48, msg(api.MLease, int(dip(1))))
		m.Tick(16)
		m.Crash()
		if m.Out() != nil || m.Up() || m.Busy() || m.Boot() != 0 || m.Learned() != nil {
			t.Error("a nil manager tells something")
		}
		m.Start(1)
	}
}

func TestSubmitGivesACommandItsName(t *testing.T) {
	for n := 1; n <= 3; n++ {
		for place := range n {
			d, p := begun(t, place, n), newPeer(t, 16+(place+1)%n)
			var want []api.Command
			for i, says := range sayings() {
				// What a command said of itself is of no weight.
				d.Tick(1 + 4*i)
				d.Submit(by(says, -5, 77, lastTime+1, -1))
				want = append(want, by(says, 16+place, 0, i+1, 1+4*i))
				p.answers(d)
				d.knows(want...)
			}
		}
	}
}

func TestCommandsThatAreNotInForm(t *testing.T) {
	d := begun(t, 0, 1)
	for i, says := range notSayings() {
		d.Submit(says)
		d.Submit(by(says, 16, 0, 1, 0))
		d.idles()
		d.knows(d.Learned()[:i]...)
		d.Submit(sayings()[i%22])
		if log := d.Learned(); len(log) != i+1 || log[i].Seq != i+1 {
			t.Fatalf("behind %+v: %s", says, short(log))
		}
		d.Out()
	}
}

// A command that is dropped has had its number.
func TestDroppedCommandsHaveTheirNumbers(t *testing.T) {
	d, p := begun(t, 2, 3), newPeer(t, 17)
	d.Submit(heal(1))
	d.Submit(heal(1))
	d.Submit(heal(2))
	d.Submit(heal(2))
	d.Submit(heal(2))
	d.Submit(heal(3))
	p.answers(d)
	d.Submit(heal(4))
	p.answers(d)
	d.knows(by(heal(1), 18, 0, 1, 0), by(heal(2), 18, 0, 3, 0), by(heal(3), 18, 0, 6, 0), by(heal(4), 18, 0, 7, 0))
}

func TestAlikeJobsAreDropped(t *testing.T) {
	for i, first := range sayings() {
		for j, second := range sayings() {
			d, p := begun(t, 0, 2), newPeer(t, 17)
			d.Submit(first)
			d.Tick(5)
			d.Submit(second)
			d.Submit(second)
			d.Submit(first)
			p.answers(d)
			want := []api.Command{by(first, 16, 0, 1, 0)}
			if i != j {
				want = append(want, by(second, 16, 0, 2, 5))
			}
			d.knows(want...)
			p.rounds(t, len(want))
			// None is there any more: both may come again.
			d.Submit(first)
			p.answers(d)
			d.knows(append(want, by(first, 16, 0, 5, 5))...)
		}
	}
}

// A job that waits behind others is alike, too.
func TestAlikeJobsFartherBehind(t *testing.T) {
	for i := range sayings() {
		d, p := begun(t, 0, 2), newPeer(t, 17)
		var want []api.Command
		for j, says := range sayings() {
			d.Submit(says)
			want = append(want, by(says, 16, 0, j+1, 0))
		}
		d.Submit(sayings()[i])
		p.answers(d)
		d.knows(want...)
	}
}

func TestOtherHostsJobsAreNotAlike(t *testing.T) {
	for _, busy := range []bool{false, true} {
		d, p := begun(t, 0, 2), newPeer(t, 17)
		d.Submit(open(1, vipA))
		if !busy {
			p.answers(d)
		}
		for range 2 {
			for _, host := range []int{48, 55, 48, 49} {
				d.Receive(host, msg(api.MLease, int(dip(1))))
			}
			d.Submit(lend(1))
		}
		var hosts []int
		for _, post := range p.answers(d) {
			if post.Msg.Kind == api.MGrant {
				hosts = append(hosts, post.To)
			}
		}
		if !slices.Equal(hosts, []int{48, 55, 49}) {
			t.Errorf("grants to %v", hosts)
		}
		c := lend(1)
		d.knows(by(open(1, vipA), 16, 0, 1, 0), by(c, 16, 0, 2, 0), by(c, 16, 0, 3, 0), by(c, 16, 0, 5, 0), by(c, 16, 0, 6, 0))
	}
}

func TestLearningsAreAlike(t *testing.T) {
	d, p := begun(t, 0, 2), newPeer(t, 17)
	d.Tick(0)
	d.posts(to(prepare(ballot(1, 16)), 17)...)
	d.Tick(32)
	d.Submit(heal(1))
	d.Tick(64)
	d.works(true)
	d.Submit(heal(2))
	d.posts()
	d.Receive(17, promise(ballot(1, 16), api.Ballot{}))
	p.answers(d)
	// Both commands behind the one learning: three rounds, of which the peer was asked for the last two.
	p.rounds(t, 2)
	d.knows(by(heal(1), 16, 0, 1, 32), by(heal(2), 16, 0, 2, 64))

	d.Submit(heal(3))
	d.Tick(96)
	d.Tick(128)
	d.Submit(heal(4))
	p.answers(d)
	// A command, a learning, a command.
	p.rounds(t, 5)
	d.works(false)
}

func TestThirtyTwoJobsWait(t *testing.T) {
	for _, host := range []int{0, 48} {
		d, p := begun(t, 0, 2), newPeer(t, 17)
		var want []api.Command
		for i := range 36 {
			c := heal(i)
			if host == 0 {
				d.Submit(c)
			} else {
				d.Receive(host, msg(api.MHealth, int(dip(i)), 1))
			}
			// One is worked on, and 32 wait.
			if i < 33 {
				want = append(want, by(c, 16, 0, i+1, 0))
			}
		}
		d.Tick(0)
		p.answers(d)
		p.rounds(t, 33)
		d.knows(want...)
		d.Submit(hurt(1))
		p.answers(d)
		d.knows(append(want, by(hurt(1), 16, 0, 37, 0))...)
	}
}

// As soon as a job ends there is room for another one: at its age of 40 the next one begins, and a learning finds room.
func TestRoomBehindAJobThatEnds(t *testing.T) {
	d := begun(t, 0, 2)
	for i := range 33 {
		d.Submit(heal(i))
	}
	for range 39 {
		d.Tick(33)
	}
	d.Out()
	d.Tick(32)
	d.posts(to(prepare(ballot(2, 16)), 17)...)
	d.Submit(heal(40))
	p := newPeer(t, 17)
	d.Receive(17, promise(ballot(2, 16), api.Ballot{}))
	p.answers(d)
	// 31 commands that waited, and the learning behind them; the last command found no room.
	p.rounds(t, 32)
	if log := d.Learned(); len(log) != 32 || log[31].Seq != 33 {
		t.Errorf("%d commands: %s", len(log), short(log))
	}
}

func TestJobsAreDoneInTheirOrder(t *testing.T) {
	d, p := begun(t, 1, 2), newPeer(t, 16)
	d.Submit(heal(1))
	d.posts(to(prepare(ballot(1, 17)), 16)...)
	d.Submit(heal(2))
	d.Receive(50, msg(api.MHealth, int(dip(3)), 0))
	d.Submit(heal(4))
	// Nothing is asked for those that wait.
	d.posts()
	d.Receive(16, promise(ballot(1, 17), api.Ballot{}))
	d.Out()
	d.Receive(16, accepted(ballot(1, 17)))
	c := by(heal(1), 17, 0, 1, 0)
	d.posts(join(to(config(c), knowing...), to(prepare(ballot(2, 17)), 16))...)
	d.works(true)
	d.Receive(16, promise(ballot(2, 17), api.Ballot{}))
	p.answers(d)
	d.Receive(16, accepted(ballot(2, 17)))
	p.answers(d)
	d.works(false)
	d.knows(c, by(heal(2), 17, 0, 2, 0), by(hurt(3), 17, 0, 3, 0), by(heal(4), 17, 0, 4, 0))
}

func TestLeasesAreGranted(t *testing.T) {
	d := begunWith(t, 0, 1, 0, 0, stored(t, someSize, nil))
	d.Submit(open(1, vipA))
	d.Submit(open(20, vipB))
	d.Tick(5)
	for host := 48; host <= 55; host++ {
		d.Receive(host, api.Msg{Kind: api.MLease, Nums: []int{int(dip(1))}, Data: []byte("more")})
		if host < 52 {
			d.posts(to(grant(1, vipA, 1024+8*(host-48), 69), host)...)
		} else {
			// Four leases of a machine are enough.
			d.posts()
		}
	}
	d.Tick(7)
	d.Receive(49, msg(api.MLease, int(dip(20))))
	d.posts(to(grant(20, vipB, 1024, 71), 49)...)
	// A machine without an address to the outside.
	d.Receive(49, msg(api.MLease, int(dip(21))))
	d.posts()
	d.Tick(40)
	d.Receive(48, msg(api.MLease, int(dip(1))))
	d.posts(to(grant(1, vipA, 1024, 104), 48)...)
	// An operator's lease is told to nobody.
	d.Submit(lend(1))
	d.posts()
	log := d.Learned()
	if len(log) != 14 || text(log[13]) != text(by(lend(1), 16, 0, 14, 40)) || text(log[9]) != text(by(lend(1), 16, 0, 10, 5)) {
		t.Errorf("%d commands: %s", len(log), short(log))
	}
}

func TestLeasesOfSeveralManagers(t *testing.T) {
	d := begun(t, 0, 3)
	snat := by(open(1, vipA), 20, 0, 0, 9)
	d.Tick(3)
	d.Receive(51, msg(api.MLease, int(dip(1))))
	d.Submit(heal(2))
	d.Receive(51, msg(api.MLease, int(dip(1))))
	b, c := ballot(1, 16), by(lend(1), 16, 0, 1, 3)
	d.posts(to(prepare(b), 17, 18)...)
	d.Receive(17, promise(b, ballot(0, 20), snat))
	d.posts(to(accept(b, snat, c), 17, 18)...)
	d.Receive(18, accepted(b))
	// What holds comes ahead of the grant, and that ahead of the next job.
	d.posts(join(to(config(snat, c), knowing...), to(grant(1, vipA, 1024, 73), 51), to(prepare(ballot(2, 16)), 17, 18))...)
}

// The command may be in the log from an earlier life of the store on: it is granted what it came to there, though nothing new is learned.
func TestALeaseThatIsInTheLogAlready(t *testing.T) {
	log := []api.Command{by(open(1, vipA), 17, 0, 1, 2), by(lend(1), 16, 0, 1, 5), by(lend(1), 17, 0, 2, 50)}
	s := stored(t, someSize, nil)
	v, _ := vote.Open(s, 16)
	v.Accept(ballot(3, 17), log)
	d := begunWith(t, 0, 1, 1, 0, s)
	d.Tick(0)
	d.posts(join(to(config(log...), 32), to(config(log...), 32))...)
	d.Tick(9)
	d.Receive(48, msg(api.MLease, int(dip(1))))
	d.posts(to(grant(1, vipA, 1024, 69), 48)...)
	d.knows(log...)
}

func TestMachinesHealth(t *testing.T) {
	for host := 48; host <= 55; host++ {
		d := begunWith(t, 0, 1, 0, 0, stored(t, someSize, nil))
		d.Receive(host, msg(api.MHealth, int(dip(1)), 0))
		d.Receive(host, api.Msg{Kind: api.MHealth, Nums: []int{int(dip(127)), 1}, Data: []byte("more")})
		d.posts()
		d.knows(by(hurt(1), 16, 0, 1, 0), by(heal(127), 16, 0, 2, 0))
	}
}

// A health is told for no host: whoever tells it, it is the same job.
func TestHealthsOfSeveralHostsAreAlike(t *testing.T) {
	d, p := begun(t, 0, 2), newPeer(t, 17)
	d.Receive(48, msg(api.MHealth, int(dip(1)), 0))
	d.Receive(49, msg(api.MHealth, int(dip(1)), 0))
	d.Submit(hurt(1))
	d.Receive(49, msg(api.MHealth, int(dip(1)), 1))
	d.Submit(heal(1))
	p.answers(d)
	d.knows(by(hurt(1), 16, 0, 1, 0), by(heal(1), 16, 0, 4, 0))
}

func TestHostsMessagesThatAreNone(t *testing.T) {
	d := begun(t, 0, 1)
	one := int(dip(1))
	bad := []api.Msg{
		msg(api.MLease), msg(api.MLease, one, one), msg(api.MLease, one, 1), {Kind: api.MLease, Data: []byte{1}},
		msg(api.MHealth), msg(api.MHealth, one), msg(api.MHealth, one, 1, 1), msg(api.MHealth, one, 0, 0),
		msg(0, one), msg(-7, one), msg(20, one, 1), msg(256+api.MLease, one), msg(256+api.MHealth, one, 1),
		msg(api.MGrant, one), msg(api.MOpen, one), msg(api.MConfig, 1), config(some(3)...),
		prepare(ballot(1, 16)), accept(ballot(1, 16)), promise(ballot(1, 16), ballot(0, 0)), accepted(ballot(1, 16)), refused(ballot(1, 16), ballot(2, 16)),
	}
	for _, n := range []int{0, 1, -1, int(vipA), 0x0a010010, 0x0a010800, -one, one + 1<<32, one - 1<<32, one | math.MinInt, math.MaxInt, math.MinInt} {
		bad = append(bad, msg(api.MLease, n), msg(api.MHealth, n, 0), msg(api.MHealth, n, 1))
	}
	for _, n := range []int{2, -1, 256, 257, 1 << 32, 1<<32 + 1, math.MaxInt, math.MinInt, math.MinInt + 1} {
		bad = append(bad, msg(api.MHealth, one, n))
	}
	for host := 48; host <= 55; host++ {
		for _, x := range bad {
			d.Receive(host, x)
			d.idles()
			d.knows()
		}
	}
	// Nor are they any host's, whoever sends them.
	for _, node := range slices.Concat(others, []int{16, 17, 20, 23}) {
		d.Receive(node, msg(api.MLease, one))
		d.Receive(node, msg(api.MHealth, one, 0))
		d.idles()
		d.knows()
	}
	d.promised(ballot(1, 16))
	d.Submit(heal(1))
	d.knows(by(heal(1), 16, 0, 1, 0))
}

// All managers are heard, and not just as many as there are; itself, too.
func TestPromises(t *testing.T) {
	for node := 16; node <= 23; node++ {
		d := begun(t, 1, 3)
		d.Receive(node, prepare(ballot(2, 18)))
		d.posts(to(promise(ballot(2, 18), api.Ballot{}), node)...)
		d.Receive(node, prepare(ballot(2, 18)))
		d.posts(to(promise(ballot(2, 18), api.Ballot{}), node)...)
		for _, low := range []api.Ballot{ballot(2, 17), ballot(1, 23), ballot(1, 16)} {
			d.Receive(node, prepare(low))
			d.posts(to(refused(low, ballot(2, 18)), node)...)
		}
		d.Receive(node, accept(ballot(3, 16), some(2)...))
		d.posts(to(accepted(ballot(3, 16)), node)...)
		high := api.Msg{Kind: api.MPrepare, Nums: []int{lastTime, 23}, Data: []byte("more")}
		d.Receive(node, high)
		d.posts(to(promise(ballot(lastTime, 23), ballot(3, 16), some(2)...), node)...)
		d.Receive(node, prepare(ballot(lastTime, 22)))
		d.posts(to(refused(ballot(lastTime, 22), ballot(lastTime, 23)), node)...)
		d.works(false)
		d.knows()
	}
}

func TestAcceptances(t *testing.T) {
	for node := 16; node <= 23; node++ {
		d := begun(t, 1, 3)
		d.Receive(node, accept(ballot(4, 18), some(3)...))
		d.posts(to(accepted(ballot(4, 18)), node)...)
		for _, low := range []api.Ballot{ballot(4, 17), ballot(3, 23), ballot(1, 16)} {
			d.Receive(node, accept(low, some(4)...))
			d.posts(to(refused(low, ballot(4, 18)), node)...)
		}
		d.Receive(node, prepare(ballot(4, 18)))
		d.posts(to(promise(ballot(4, 18), ballot(4, 18), some(3)...), node)...)
		d.Receive(node, accept(ballot(4, 18)))
		d.posts(to(accepted(ballot(4, 18)), node)...)
		d.Receive(node, prepare(ballot(5, 16)))
		d.posts(to(promise(ballot(5, 16), ballot(4, 18)), node)...)
		d.Receive(node, accept(ballot(5, 16), some(1)...))
		d.posts(to(accepted(ballot(5, 16)), node)...)
		d.works(false)
		d.knows()
	}
}

// notBallots are ballots that a voter doesn't take.
func notBallots() []api.Ballot {
	return []api.Ballot{{}, ballot(0, 16), ballot(-1, 16), ballot(lastTime+1, 16), ballot(math.MaxInt, 16), ballot(math.MinInt, 16), ballot(9, 15), ballot(9, 24), ballot(9, 32), ballot(9, 0), ballot(9, -16), ballot(9, math.MaxInt)}
}

func TestManagersMessagesThatAreNone(t *testing.T) {
	logs := [][]byte{nil, {0}, make([]byte, 7), make([]byte, 9), append(make([]byte, 7), 1), append(accept(ballot(1, 16), some(2)...).Data, 0), accept(ballot(1, 16), some(2)...).Data[1:]}
	bad := []api.Msg{
		msg(api.MPrepare), msg(api.MPrepare, 9), msg(api.MPrepare, 9, 17, 1), msg(api.MPrepare, 9, 17, 1, 1),
		msg(0, 9, 17), msg(-1, 9, 17), msg(20, 9, 17), msg(256+api.MPrepare, 9, 17), msg(256+api.MAccept, 9, 17),
		config(some(3)...), msg(api.MGrant, 9, 17), msg(api.MOpened, 1), msg(api.MLease, 1),
		promise(ballot(1, 17), api.Ballot{}), accepted(ballot(1, 17)), refused(ballot(1, 17), ballot(5, 18)), promise(api.Ballot{}, api.Ballot{}), accepted(api.Ballot{}), refused(api.Ballot{}, ballot(5, 18)),
	}
	for _, nums := range [][]int{nil, {9}, {9, 17, 1}, {9, 17, 9, 17}} {
		bad = append(bad, withLog(msg(api.MAccept, nums...), some(1)))
	}
	for _, row := range logs {
		bad = append(bad, api.Msg{Kind: api.MAccept, Nums: []int{9, 17}, Data: row})
	}
	for _, b := range notBallots() {
		bad = append(bad, prepare(b), accept(b), accept(b, some(2)...))
	}
	for node := 16; node <= 23; node++ {
		d := begun(t, 1, 3)
		for _, x := range bad {
			d.Receive(node, x)
			d.idles()
		}
		d.promised(ballot(1, 16))
		d.knows()
	}
	d := begun(t, 1, 3)
	for _, node := range slices.Concat(others, []int{48, 49, 55}) {
		d.Receive(node, prepare(ballot(9, 17)))
		d.Receive(node, accept(ballot(9, 17), some(1)...))
		d.idles()
	}
	d.promised(ballot(1, 16))
}

// A voter whose store is full answers nobody.
func TestPromisesWithoutRoom(t *testing.T) {
	d := begunWith(t, 1, 3, 1, 1, stored(t, 22, nil))
	d.Receive(16, prepare(ballot(1, 16)))
	d.Receive(16, accept(ballot(1, 16)))
	d.idles()
	d = begunWith(t, 1, 3, 1, 1, stored(t, 23+28, nil))
	d.Receive(16, accept(ballot(3, 16), some(1)...))
	d.idles()
	d.Receive(16, prepare(ballot(1, 16)))
	d.posts(to(promise(ballot(1, 16), api.Ballot{}), 16)...)
	d.Receive(16, accept(ballot(2, 16)))
	d.posts(to(accepted(ballot(2, 16)), 16)...)
}

// asking is a desk of three managers, the first of which works on a job; what it asked at first is out of the way.
func asking(t *testing.T) (*desk, api.Command) {
	t.Helper()
	d := begun(t, 0, 3)
	d.Tick(1)
	d.Submit(hurt(9))
	d.posts(to(prepare(ballot(1, 16)), 17, 18)...)
	return d, by(hurt(9), 16, 0, 1, 1)
}

// telling is one whose job has come to the stage Tell.
func telling(t *testing.T) (*desk, api.Command) {
	t.Helper()
	d, c := asking(t)
	d.Receive(17, promise(ballot(1, 16), api.Ballot{}))
	d.posts(to(accept(ballot(1, 16), c), 17, 18)...)
	return d, c
}

func TestPromisesForTheRound(t *testing.T) {
	for _, node := range []int{17, 18} {
		d, c := asking(t)
		d.Receive(node, promise(ballot(1, 16), ballot(1, 7), some(3)...))
		d.posts(to(accept(ballot(1, 16), append(some(3), c)...), 17, 18)...)
		// It has accepted the log itself.
		d.Receive(18, prepare(ballot(1, 17)))
		d.posts(to(promise(ballot(1, 17), ballot(1, 16), append(some(3), c)...), 18)...)
	}
	b, zero := ballot(1, 16), api.Ballot{}
	short := promise(b, zero)
	short.Data = short.Data[:7]
	empty := promise(b, zero)
	empty.Data = nil
	bad := []api.Msg{
		promise(ballot(1, 17), zero), promise(ballot(2, 16), zero), promise(ballot(0, 16), zero), promise(zero, zero), promise(ballot(1, 16+1<<32), zero),
		short, empty, withLog(msg(api.MPromise, 1, 16), nil), withLog(msg(api.MPromise, 1, 16, 0), nil), withLog(msg(api.MPromise, 1, 16, 0, 0, 0), nil),
		withLog(msg(api.MPromise, 1, 16, 0, 0, 0, 0), nil), withLog(msg(api.MPromise), nil), accepted(b), withLog(msg(256+api.MPromise, 1, 16, 0, 0), nil),
	}
	for _, x := range bad {
		d, c := asking(t)
		d.Receive(17, x)
		d.Receive(18, x)
		d.posts()
		d.works(true)
		d.Receive(17, promise(b, zero))
		d.posts(to(accept(b, c), 17, 18)...)
	}
	// Nobody else's promise counts, nor its own once more.
	d, _ := asking(t)
	for _, node := range slices.Concat(others, []int{16, 19, 20, 23, 48, 55}) {
		d.Receive(node, promise(b, ballot(7, 20), some(1)...))
	}
	d.posts()
	d.works(true)
}

func TestAcceptancesOfTheRound(t *testing.T) {
	b := ballot(1, 16)
	for _, node := range []int{17, 18} {
		d, c := telling(t)
		d.Receive(node, accepted(b))
		d.posts(to(config(c), knowing...)...)
		d.works(false)
		d.knows(c)
		// Later answers come too late.
		d.Receive(35-node, accepted(b))
		d.Receive(17, promise(b, api.Ballot{}))
		d.idles()
	}
	bad := []api.Msg{
		accepted(ballot(1, 17)), accepted(ballot(2, 16)), accepted(api.Ballot{}), accepted(ballot(1, 16+1<<32)),
		msg(api.MAccepted), msg(api.MAccepted, 1), msg(api.MAccepted, 1, 16, 1), msg(api.MAccepted, 1, 16, 1, 16), msg(256+api.MAccepted, 1, 16), promise(b, api.Ballot{}),
	}
	for _, x := range bad {
		d, c := telling(t)
		d.Receive(17, x)
		d.Receive(18, x)
		d.posts()
		d.knows()
		d.Receive(18, api.Msg{Kind: api.MAccepted, Nums: []int{1, 16}, Data: []byte("more")})
		d.posts(to(config(c), knowing...)...)
	}
	d, _ := telling(t)
	for _, node := range slices.Concat(others, []int{16, 19, 20, 23, 48, 55}) {
		d.Receive(node, accepted(b))
	}
	d.posts()
	d.knows()
}

// More than half of all managers must promise, and then accept.
func TestRoundsOfAllSizes(t *testing.T) {
	for n := 2; n <= 8; n++ {
		for place := range n {
			d := begun(t, place, n)
			b, c := ballot(1, 16+place), by(lend(3), 16+place, 0, 1, 0)
			d.Submit(lend(3))
			var rest []int
			for node := 16; node < 16+n; node++ {
				if node != 16+place {
					rest = append(rest, node)
				}
			}
			d.posts(to(prepare(b), rest...)...)
			for _, node := range rest[:n/2-1] {
				d.Receive(node, promise(b, api.Ballot{}))
				d.Receive(node, promise(b, api.Ballot{}))
			}
			d.posts()
			d.Receive(rest[n-2], promise(b, api.Ballot{}))
			d.posts(to(accept(b, c), rest...)...)
			for _, node := range rest[:n/2-1] {
				d.Receive(node, accepted(b))
				d.Receive(node, accepted(b))
			}
			d.posts()
			d.Receive(rest[n-2], accepted(b))
			d.posts(to(config(c), knowing...)...)
			d.knows(c)
		}
	}
}

// isTurn tells whether a manager that was refused begins anew.
func isTurn(time, place, n int) bool {
	return slices.Contains([]int{2, 6, 10, 14, 18, 22, 26, 30}, time%32) && time/4%n == place
}

func TestRefusedJobsBeginAnewInTheirTurn(t *testing.T) {
	for n := 2; n <= 8; n++ {
		for place := range n {
			for time := range 100 {
				d := begun(t, place, n)
				d.Tick(1)
				d.Submit(hurt(9))
				d.Out()
				b := ballot(1, 16+place)
				d.Receive(16+(place+1)%n, refused(b, ballot(5, 23)))
				d.idleButBusy()
				d.Tick(time)
				anew := to(prepare(ballot(6, 16+place)), without(n, place)...)
				if !isTurn(time, place, n) {
					anew = nil
				}
				d.posts(anew...)
			}
		}
	}
}

func (d *desk) idleButBusy() {
	d.t.Helper()
	d.posts()
	d.works(true)
}

// without is the managers but for one.
func without(n, place int) []int {
	var nodes []int
	for i := range n {
		if i != place {
			nodes = append(nodes, 16+i)
		}
	}
	return nodes
}

func TestTheBallotBehindARefusal(t *testing.T) {
	for _, c := range []struct {
		by   []api.Ballot
		want int
	}{
		{[]api.Ballot{{}}, 2},
		{[]api.Ballot{ballot(1, 17)}, 2},
		{[]api.Ballot{ballot(2, 16)}, 3},
		{[]api.Ballot{ballot(7, 18)}, 8},
		{[]api.Ballot{ballot(7, -18)}, 8},
		{[]api.Ballot{ballot(7, 18), ballot(5, 23), {}}, 8},
		{[]api.Ballot{ballot(5, 23), ballot(7, 18), ballot(-7, 18)}, 8},
		{[]api.Ballot{ballot(5, 18), ballot(5, 17), ballot(4, 99)}, 6},
		{[]api.Ballot{ballot(math.MinInt, 18)}, 2},
		{[]api.Ballot{ballot(lastTime-1, 18)}, lastTime},
		{[]api.Ballot{ballot(lastTime, 18)}, lastTime},
		{[]api.Ballot{ballot(math.MaxInt, 18)}, lastTime},
	} {
		for _, begin := range []func(*testing.T) (*desk, api.Command){asking, telling} {
			// A manager that isn't one of the three may refuse, too.
			for _, node := range []int{17, 18, 16, 23} {
				d, command := begin(t)
				for _, b := range c.by {
					d.Receive(node, refused(ballot(1, 16), b))
				}
				d.idleButBusy()
				d.Tick(14)
				d.posts(to(prepare(ballot(c.want, 16)), 17, 18)...)
				d.Receive(17, promise(ballot(c.want, 16), api.Ballot{}))
				d.posts(to(accept(ballot(c.want, 16), command), 17, 18)...)
			}
		}
	}
}

func TestRefusalsThatAreNone(t *testing.T) {
	bad := []api.Msg{
		refused(ballot(1, 17), ballot(9, 18)), refused(ballot(2, 16), ballot(9, 18)), refused(api.Ballot{}, ballot(9, 18)),
		msg(api.MRefused), msg(api.MRefused, 1, 16), msg(api.MRefused, 1, 16, 9), msg(api.MRefused, 1, 16, 9, 18, 0), msg(api.MRefused, 1, 16, 9, 18, 0, 0), msg(256+api.MRefused, 1, 16, 9, 18),
	}
	for _, x := range bad {
		d, _ := asking(t)
		d.Receive(17, x)
		d.Tick(14)
		d.idleButBusy()
	}
	d, _ := asking(t)
	for _, node := range slices.Concat(others, []int{48, 55}) {
		d.Receive(node, refused(ballot(1, 16), ballot(9, 18)))
	}
	d.Tick(14)
	d.idleButBusy()
}

// A job that was refused is done all the same, if enough answer.
func TestRefusedJobsGoOn(t *testing.T) {
	d, c := asking(t)
	b := ballot(1, 16)
	d.Receive(18, refused(b, ballot(7, 18)))
	d.Receive(17, promise(b, api.Ballot{}))
	d.posts(to(accept(b, c), 17, 18)...)
	d.Receive(17, accepted(b))
	d.posts(to(config(c), knowing...)...)
	d.knows(c)
	// The next job has nothing of it.
	d.Submit(hurt(8))
	d.posts(to(prepare(ballot(2, 16)), 17, 18)...)
	d.Tick(14)
	d.idleButBusy()
}

// Behind a refusal a job is asked for no more, till it begins anew; from then on it is.
func TestRefusedJobsAreNotAskedAgain(t *testing.T) {
	d, _ := asking(t)
	d.Receive(17, refused(ballot(1, 16), ballot(3, 17)))
	for range 9 {
		d.Tick(5)
	}
	d.idleButBusy()
	d.Tick(26)
	d.posts(to(prepare(ballot(4, 16)), 17, 18)...)
	d.Tick(26)
	d.posts()
	d.Tick(5)
	d.posts(to(prepare(ballot(4, 16)), 17, 18)...)
	// Answers to the earlier ballot are nothing any more.
	d.Receive(17, promise(ballot(1, 16), api.Ballot{}))
	d.Receive(18, refused(ballot(1, 16), ballot(9, 17)))
	d.Tick(26)
	d.posts()
	d.Receive(17, promise(ballot(4, 16), api.Ballot{}))
	d.posts(to(accept(ballot(4, 16), by(hurt(9), 16, 0, 1, 1)), 17, 18)...)
}

// The age counts on behind a refusal, and in a round that begins anew.
func TestRefusedJobsEnd(t *testing.T) {
	d, _ := asking(t)
	d.Receive(17, refused(ballot(1, 16), ballot(3, 17)))
	for range 30 {
		d.Tick(5)
	}
	d.Tick(26)
	d.posts(to(prepare(ballot(4, 16)), 17, 18)...)
	d.Receive(17, refused(ballot(4, 16), ballot(5, 17)))
	for range 8 {
		d.Tick(5)
		d.works(true)
	}
	d.Tick(14)
	d.idles()
}

// The own voter may have promised another manager since.
func TestTheOwnVoterRefuses(t *testing.T) {
	d, c := asking(t)
	d.Receive(18, prepare(ballot(4, 18)))
	d.posts(to(promise(ballot(4, 18), api.Ballot{}), 18)...)
	d.Receive(17, promise(ballot(1, 16), api.Ballot{}))
	// The others are asked all the same, and the job is refused.
	d.posts(to(accept(ballot(1, 16), c), 17, 18)...)
	for range 4 {
		d.Tick(5)
	}
	d.Receive(17, accepted(ballot(1, 16)))
	d.idleButBusy()
	d.knows()
	d.Tick(14)
	d.posts(to(prepare(ballot(5, 16)), 17, 18)...)

	d, c = asking(t)
	d.Receive(18, prepare(ballot(4, 18)))
	d.Receive(17, promise(ballot(1, 16), api.Ballot{}))
	d.Out()
	d.Receive(18, accepted(ballot(1, 16)))
	d.posts()
	d.Receive(17, accepted(ballot(1, 16)))
	d.posts(to(config(c), knowing...)...)
	d.works(false)
	d.knows(c)
}

func TestJobsThatCannotBeginEnd(t *testing.T) {
	// No room for a promise.
	for n := 1; n <= 3; n++ {
		d := begunWith(t, 0, n, 1, 1, stored(t, 22, nil))
		d.Submit(heal(1))
		d.Tick(0)
		d.idles()
		d.knows()
	}
	// No ballot above what was promised.
	d := begun(t, 0, 3)
	d.Receive(23, prepare(ballot(lastTime, 17)))
	d.Out()
	d.Submit(heal(1))
	d.idles()
	d = begun(t, 1, 3)
	d.Receive(23, prepare(ballot(lastTime, 17)))
	d.Out()
	d.Submit(heal(1))
	d.posts(to(prepare(ballot(lastTime, 17)), 16, 18)...)

	// All jobs that wait are gone then, as none of them can begin.
	d = begun(t, 0, 3)
	for i := range 10 {
		d.Submit(heal(i))
	}
	d.Out()
	d.Receive(18, promise(ballot(1, 16), api.Ballot{}))
	d.Receive(23, prepare(ballot(lastTime, 23)))
	d.Out()
	d.Receive(18, accepted(ballot(1, 16)))
	d.posts(to(config(by(heal(0), 16, 0, 1, 0)), knowing...)...)
	d.works(false)

	// One that was refused ends, if it can't begin anew.
	d, _ = asking(t)
	d.Receive(23, refused(ballot(1, 16), ballot(9, 23)))
	d.Receive(23, prepare(ballot(lastTime, 23)))
	d.Submit(heal(1))
	d.Out()
	d.works(true)
	d.Tick(14)
	d.idles()
}

func TestJobsWithoutRoomForALogEnd(t *testing.T) {
	for n := 1; n <= 3; n++ {
		// Room for a promise and a log without commands alone.
		d := begunWith(t, 0, n, 1, 1, stored(t, 23+28, nil))
		d.Submit(heal(1))
		d.Submit(heal(2))
		b := ballot(1, 16)
		if n > 1 {
			d.posts(to(prepare(b), without(n, 0)...)...)
			d.Receive(17, promise(b, api.Ballot{}))
			d.posts(to(prepare(ballot(2, 16)), without(n, 0)...)...)
			d.Receive(17, promise(ballot(2, 16), api.Ballot{}))
		}
		d.idles()
		d.knows()
		// To learn there is room.
		d.Tick(0)
		d.works(n > 1)
		d.promised(ballot(3, 16))
	}
}

func TestFullLogs(t *testing.T) {
	d, c := asking(t)
	d.Submit(hurt(8))
	d.Receive(17, promise(ballot(1, 16), ballot(1, 1), some(256)...))
	d.posts(to(prepare(ballot(2, 16)), 17, 18)...)
	d.Receive(18, promise(ballot(2, 16), ballot(1, 1), some(255)...))
	c = by(hurt(8), 16, 0, 2, 1)
	d.posts(to(accept(ballot(2, 16), append(some(255), c)...), 17, 18)...)
	d.Receive(18, accepted(ballot(2, 16)))
	d.posts(to(config(append(some(255), c)...), knowing...)...)
	d.Submit(hurt(7))
	d.Out()
	d.Receive(17, promise(ballot(3, 16), api.Ballot{}))
	d.idles()
	d.knows(append(some(255), c)...)
	// What is full can still be learned.
	d.Tick(0)
	d.Out()
	d.Receive(17, promise(ballot(4, 16), api.Ballot{}))
	d.posts(to(accept(ballot(4, 16), append(some(255), c)...), 17, 18)...)
	d.Receive(17, accepted(ballot(4, 16)))
	d.idles()
}

func TestAFullLogOfOne(t *testing.T) {
	d := begunWith(t, 0, 1, 0, 0, stored(t, someSize, nil))
	for i := range 300 {
		d.Submit(sayings()[i%22])
		if want := min(i+1, 256); len(d.Learned()) != want {
			t.Fatalf("%d commands, want %d", len(d.Learned()), want)
		}
		d.idles()
	}
}

// learning has a manager of three learn a log that another one tells, by a ballot.
func (d *desk) learning(n int, log []api.Command) {
	d.t.Helper()
	d.Tick(0)
	b := ballot(n, 16)
	d.Receive(17, promise(b, ballot(n-1, 18), log...))
	d.Receive(17, accepted(b))
	d.works(false)
}

func TestOnlyLongerLogsAreLearned(t *testing.T) {
	d := begun(t, 0, 3)
	d.learning(1, nil)
	d.knows()
	d.posts(join(to(prepare(ballot(1, 16)), 17, 18), to(accept(ballot(1, 16)), 17, 18))...)
	d.learning(2, some(4))
	d.knows(some(4)...)
	d.posts(join(to(prepare(ballot(2, 16)), 17, 18), to(accept(ballot(2, 16), some(4)...), 17, 18), to(config(some(4)...), knowing...))...)
	for i, log := range [][]api.Command{some(5)[1:], some(3), nil} {
		d.learning(3+i, log)
		d.knows(some(4)...)
		for _, post := range d.Out() {
			if post.Msg.Kind == api.MConfig && text(post.Msg) != text(config(some(4)...)) {
				t.Errorf("it told %s", short(post))
			}
		}
	}
	d.learning(6, some(9)[1:6])
	d.knows(some(9)[1:6]...)
}

func TestWhatHoldsIsTold(t *testing.T) {
	for muxes := range 9 {
		for hosts := range 9 {
			d := begunWith(t, 0, 1, muxes, hosts, stored(t, someSize, nil))
			var nodes []int
			for i := range muxes {
				nodes = append(nodes, 32+i)
			}
			for i := range hosts {
				nodes = append(nodes, 48+i)
			}
			d.Tick(8)
			d.posts()
			d.Submit(heal(1))
			one := by(heal(1), 16, 0, 1, 8)
			d.posts(to(config(one), nodes...)...)
			d.Submit(heal(2))
			two := by(heal(2), 16, 0, 2, 8)
			d.posts(to(config(one, two), nodes...)...)
			d.Tick(24)
			d.posts(to(config(one, two), nodes...)...)
		}
	}
}

// long is so many commands whose bytes are 8, and 24 for each of the ends and 96 for each command.
func long(ends []int) []api.Command {
	var log []api.Command
	for i, n := range ends {
		log = append(log, by(serve(vipA, api.TCP, 1+i, manyEnds(n)...), 20, 0, i, 0))
	}
	return log
}

func manyEnds(n int) []api.End {
	var list []api.End
	for i := range n {
		list = append(list, api.End{Dip: dip(i), Port: 1, Weight: 1})
	}
	return list
}

// sized is a log of 41 commands that has 65528 bytes with a last one of 6 ends: with 7 it can't be framed.
func sized(last int) []api.Command {
	return long(append(slices.Repeat([]int{64}, 40), last))
}

func TestMessagesThatCannotBeFramed(t *testing.T) {
	for last, fits := range map[int]bool{6: true, 7: false} {
		log := sized(last)
		if row := accept(ballot(1, 16), log...).Data; len(row) <= 1<<16 != fits {
			t.Fatalf("%d bytes", len(row))
		}
		posts := func(list ...[]api.Post) []api.Post {
			if !fits {
				return nil
			}
			return join(list...)
		}
		d := begun(t, 0, 3)
		d.Receive(18, accept(ballot(1, 18), log...))
		d.posts(to(accepted(ballot(1, 18)), 18)...)
		d.Receive(17, prepare(ballot(2, 17)))
		d.posts(posts(to(promise(ballot(2, 17), ballot(1, 18), log...), 17))...)
		// It promised all the same.
		d.promised(ballot(2, 17))
		d.Tick(0)
		d.posts(to(prepare(ballot(3, 16)), 17, 18)...)
		d.Receive(17, promise(ballot(3, 16), api.Ballot{}))
		d.posts(posts(to(accept(ballot(3, 16), log...), 17, 18))...)
		d.works(true)
		for range 4 {
			d.Tick(5)
		}
		d.posts(posts(to(accept(ballot(3, 16), log...), 17, 18))...)
		d.Receive(18, accepted(ballot(3, 16)))
		d.posts(posts(to(config(log...), knowing...))...)
		d.knows(log...)
		d.works(false)
	}
}

// Each four ticks those that are missing are asked again, till at its age of 40 the job ends.
func TestMissingManagersAreAskedAgain(t *testing.T) {
	for stage, begin := range []func(*testing.T) (*desk, api.Command){asking, telling} {
		d, c := begin(t)
		x := prepare(ballot(1, 16))
		if stage == 1 {
			x = accept(ballot(1, 16), c)
		}
		for age := 1; age < 40; age++ {
			d.Tick(5)
			var want []api.Post
			if slices.Contains([]int{4, 8, 12, 16, 20, 24, 28, 32, 36}, age) {
				want = to(x, 17, 18)
			}
			d.posts(want...)
			d.works(true)
		}
		d.Tick(5)
		d.idles()
		d.Tick(5)
		d.idles()
	}
	// Of five those that haven't answered alone.
	d := begun(t, 3, 5)
	b, c := ballot(1, 19), by(heal(1), 19, 0, 1, 0)
	d.Submit(heal(1))
	d.Receive(17, promise(b, api.Ballot{}))
	d.posts(to(prepare(b), 16, 17, 18, 20)...)
	for range 4 {
		d.Tick(5)
	}
	d.posts(to(prepare(b), 16, 18, 20)...)
	d.Receive(20, promise(b, api.Ballot{}))
	d.posts(to(accept(b, c), 16, 17, 18, 20)...)
	d.Receive(16, accepted(b))
	d.Tick(5)
	d.posts()
	for range 3 {
		d.Tick(5)
	}
	// The age is that of the job, not of the stage.
	d.posts(to(accept(b, c), 17, 18, 20)...)
}

// The own voter is asked once: what it refused then, it isn't asked again.
func TestTheOwnVoterIsMissing(t *testing.T) {
	d := begun(t, 0, 5)
	b := ballot(1, 16)
	d.Submit(heal(1))
	d.Receive(20, prepare(ballot(2, 20)))
	d.Out()
	d.Receive(17, promise(b, api.Ballot{}))
	d.Receive(18, promise(b, api.Ballot{}))
	d.posts(to(accept(b, by(heal(1), 16, 0, 1, 0)), 17, 18, 19, 20)...)
	d.Receive(17, accepted(b))
	d.Receive(18, accepted(b))
	d.idleButBusy()
	d.Receive(19, accepted(b))
	d.works(false)
	d.knows(by(heal(1), 16, 0, 1, 0))
}

func TestTheNextJobsAgeBeginsAnew(t *testing.T) {
	d, _ := asking(t)
	d.Submit(hurt(8))
	for range 39 {
		d.Tick(5)
	}
	d.Out()
	d.Tick(5)
	d.posts(to(prepare(ballot(2, 16)), 17, 18)...)
	for range 3 {
		d.Tick(5)
	}
	d.posts()
	d.Tick(5)
	d.posts(to(prepare(ballot(2, 16)), 17, 18)...)
	for range 35 {
		d.Tick(5)
	}
	d.works(true)
	d.Tick(5)
	d.works(false)
}

func TestLearningsComeInTurns(t *testing.T) {
	for n := 1; n <= 8; n++ {
		for place := range n {
			for time := range 300 {
				s := stored(t, someSize, nil)
				d := begunWith(t, place, n, 1, 1, s)
				d.Tick(time)
				// A round that began is in the store.
				want := slices.Contains([]int{0, 16, 32, 48, 64, 80, 96, 112, 128, 144, 160, 176, 192, 208, 224, 240, 256, 272, 288}, time) && time/16%n == place
				if got := len(s.Keys()) > 0; got != want {
					t.Fatalf("manager %d of %d, at %d: %v, want %v", place, n, time, got, want)
				}
				d.works(want && n > 1)
			}
		}
	}
}

func TestWhatHoldsIsToldInTurns(t *testing.T) {
	for n := 1; n <= 8; n++ {
		for place := range n {
			s := stored(t, someSize, nil)
			v, _ := vote.Open(s, 16+place)
			v.Accept(ballot(1, 16), some(2))
			d := begunWith(t, place, n, 2, 1, s)
			d.Tick(16 * place)
			for _, node := range without(n, place) {
				d.Receive(node, promise(ballot(2, 16+place), api.Ballot{}))
			}
			for _, node := range without(n, place) {
				d.Receive(node, accepted(ballot(2, 16+place)))
			}
			d.knows(some(2)...)
			for time := range 300 {
				d.Out()
				d.Tick(time)
				told := slices.DeleteFunc(d.Out(), func(post api.Post) bool { return post.Msg.Kind != api.MConfig })
				var want []api.Post
				if time&7 == 0 && time>>3%n == place {
					want = to(config(some(2)...), knowing...)
				}
				if text(told) != text(want) {
					t.Fatalf("manager %d of %d, at %d: %s, want %s", place, n, time, short(told), short(want))
				}
			}
		}
	}
}

// A tick does all of this, one behind the other.
func TestTheOrderWithinATick(t *testing.T) {
	d := begun(t, 0, 3)
	d.learning(1, some(2))
	d.Submit(hurt(9))
	for range 3 {
		d.Tick(5)
	}
	d.Out()
	d.Tick(96)
	d.posts(join(to(prepare(ballot(2, 16)), 17, 18), to(config(some(2)...), knowing...))...)
	// The learning has come, and waits.
	d.Receive(17, promise(ballot(2, 16), api.Ballot{}))
	d.Out()
	d.Receive(17, accepted(ballot(2, 16)))
	log := append(some(2), by(hurt(9), 16, 0, 1, 0))
	d.posts(join(to(config(log...), knowing...), to(prepare(ballot(3, 16)), 17, 18))...)
	d.Tick(96)
	d.posts(to(config(log...), knowing...)...)
	d.Receive(17, promise(ballot(3, 16), api.Ballot{}))
	d.Receive(17, accepted(ballot(3, 16)))
	d.Out()
	d.works(false)
	d.Tick(48)
	d.posts(join(to(prepare(ballot(4, 16)), 17, 18), to(config(log...), knowing...))...)
}

func TestTimesThatAreNone(t *testing.T) {
	d, _ := asking(t)
	for _, time := range []int{-1, -16, lastTime + 1, lastTime + 16, math.MaxInt, math.MinInt} {
		for range 50 {
			d.Tick(time)
		}
		d.idleButBusy()
	}
	d.Submit(hurt(8))
	for range 40 {
		d.Tick(lastTime)
	}
	d.Out()
	d.Receive(17, promise(ballot(2, 16), api.Ballot{}))
	d.posts(to(accept(ballot(2, 16), by(hurt(8), 16, 0, 2, 1)), 17, 18)...)
	// Times may fall.
	for _, time := range []int{0, 7, 3, lastTime, lastTime - 1, 0} {
		d = begun(t, 0, 1)
		d.Tick(9)
		d.Tick(time)
		d.Tick(-1)
		d.Tick(lastTime + 1)
		d.Submit(hurt(1))
		d.knows(by(hurt(1), 16, 0, 1, time))
	}
}

func TestACrashTakesWhatIsNotSafe(t *testing.T) {
	d, _ := asking(t)
	d.Submit(hurt(8))
	d.Submit(hurt(7))
	d.Receive(18, prepare(ballot(4, 18)))
	d.store.Put("loose", []byte("end"))
	d.Crash()
	if d.Up() || d.Boot() != 0 {
		t.Errorf("Up() = %v, Boot() = %d", d.Up(), d.Boot())
	}
	d.idles()
	d.knows()
	if keys := d.store.Keys(); !slices.Equal(keys, []string{"promise"}) {
		t.Errorf("the store has %q", keys)
	}
	d.Start(3)
	if !d.Up() || d.Boot() != 1 {
		t.Errorf("Up() = %v, Boot() = %d", d.Up(), d.Boot())
	}
	d.idles()
	d.knows()
	// What it promised it still knows; answers to what it asked come too late; its numbers begin anew.
	d.Receive(17, promise(ballot(1, 16), api.Ballot{}))
	d.idles()
	d.promised(ballot(4, 18))
	d.Submit(hurt(6))
	d.posts(to(prepare(ballot(5, 16)), 17, 18)...)
	d.Receive(17, promise(ballot(5, 16), api.Ballot{}))
	c := by(hurt(6), 16, 1, 1, 3)
	d.posts(to(accept(ballot(5, 16), c), 17, 18)...)
	d.Receive(17, accepted(ballot(5, 16)))
	// None of the jobs that waited is there.
	d.posts(to(config(c), knowing...)...)
	d.works(false)
}

func TestACrashTakesTheLearnedLog(t *testing.T) {
	d := begun(t, 0, 1)
	d.Submit(hurt(1))
	d.Crash()
	d.knows()
	d.Start(1)
	d.knows()
	d.posts()
	d.Tick(8)
	d.posts()
	d.Submit(hurt(2))
	log := []api.Command{by(hurt(1), 16, 0, 1, 0), by(hurt(2), 16, 1, 1, 8)}
	d.posts(to(config(log...), knowing...)...)
	d.knows(log...)
	d.Crash()
	d.Start(1)
	// A learning brings it back, if it was accepted.
	d.Tick(16)
	d.knows(log...)
}

func TestWhoIsDownDoesNothing(t *testing.T) {
	d := begun(t, 0, 1)
	d.Tick(9)
	d.Crash()
	d.store.Put("loose", []byte("end"))
	for range 3 {
		d.Crash()
		d.Submit(hurt(1))
		d.Receive(48, msg(api.MLease, int(dip(1))))
		d.Receive(17, prepare(ballot(1, 17)))
		d.Receive(17, accept(ballot(1, 17), some(1)...))
		d.Receive(17, promise(ballot(1, 17), api.Ballot{}))
		d.Receive(17, accepted(api.Ballot{}))
		d.Receive(17, refused(api.Ballot{}, ballot(1, 17)))
		d.Tick(16)
		d.idles()
		d.knows()
		if d.Up() || d.Boot() != 0 {
			t.Errorf("Up() = %v, Boot() = %d", d.Up(), d.Boot())
		}
	}
	// A second crash is none: what was put since is still there.
	if keys := d.store.Keys(); !slices.Equal(keys, []string{"loose"}) {
		t.Errorf("the store has %q", keys)
	}
	// Neither a tick while it was down, nor a start at no time, changes the time.
	d.Start(-1)
	d.promised(ballot(1, 16))
	d.Submit(hurt(1))
	d.knows(by(hurt(1), 16, 1, 1, 9))
}

func TestStarts(t *testing.T) {
	d := begun(t, 0, 1)
	// Who is up isn't started: nothing is taken, nor is the time another one.
	d.Submit(hurt(1))
	d.Start(7)
	d.Submit(hurt(2))
	log := []api.Command{by(hurt(1), 16, 0, 1, 0), by(hurt(2), 16, 0, 2, 0)}
	d.knows(log...)
	times := []struct{ start, time int }{{7, 7}, {-1, 7}, {lastTime, lastTime}, {lastTime + 1, lastTime}, {math.MinInt, lastTime}, {0, 0}, {math.MaxInt, 0}, {3, 3}}
	for i, c := range times {
		d.Crash()
		d.Start(c.start)
		d.Start(99)
		if !d.Up() || d.Boot() != i+1 {
			t.Fatalf("Up() = %v, Boot() = %d", d.Up(), d.Boot())
		}
		d.idles()
		d.Submit(hurt(i))
		log = append(log, by(hurt(i), 16, i+1, 1, c.time))
		d.knows(log...)
		d.Out()
	}
}

func TestStartsWithABadStore(t *testing.T) {
	d := begun(t, 0, 1)
	d.Tick(5)
	d.Crash()
	d.store.Put("promise", []byte("none"))
	for range 3 {
		d.Start(6)
		if d.Up() || d.Boot() != 0 {
			t.Fatalf("Up() = %v, Boot() = %d", d.Up(), d.Boot())
		}
		d.Submit(hurt(1))
		d.idles()
	}
	d.store.Drop("promise")
	d.Start(-1)
	if !d.Up() || d.Boot() != 1 {
		t.Fatalf("Up() = %v, Boot() = %d", d.Up(), d.Boot())
	}
	d.Submit(hurt(1))
	d.knows(by(hurt(1), 16, 1, 1, 5))
}

// view is all that a manager tells.
func (d *desk) view() string {
	return text([]any{d.Out(), d.Up(), d.Busy(), d.Boot(), d.Learned(), d.store.Keys()})
}

// nothing is a call that does nothing, at any manager and at any time.
func nothing(random *rand.Rand, m *manager.Manager) {
	bad := []int{-1, 3, 5, 7}[random.IntN(4)]
	b := ballot(1+random.IntN(9), 16+random.IntN(3))
	switch random.IntN(7) {
	case 0:
		m.Submit(notSayings()[random.IntN(len(notSayings()))])
	case 1:
		m.Receive(others[random.IntN(len(others))], accept(b, some(2)...))
	case 2:
		m.Receive(16+random.IntN(8), api.Msg{Kind: 1 + random.IntN(5), Nums: make([]int, max(bad, 0)), Data: accept(b).Data})
	case 3:
		m.Receive(48+random.IntN(8), msg(7+2*random.IntN(2), int(vipA), bad))
	case 4:
		m.Receive(16+random.IntN(8), prepare(notBallots()[random.IntN(len(notBallots()))]))
	case 5:
		m.Tick([]int{-1, lastTime + 1, math.MinInt, math.MaxInt}[random.IntN(4)])
	case 6:
		m.Receive(16+random.IntN(8), msg(6+random.IntN(99), b.N, b.Node))
	}
}

// anything is any call.
func anything(random *rand.Rand) func(m *manager.Manager) {
	b, low := ballot(1+random.IntN(9), 16+random.IntN(3)), ballot(random.IntN(4), 16+random.IntN(3))
	says, log := sayings()[random.IntN(22)], some(random.IntN(5))
	host, node, time := 48+random.IntN(3), 16+random.IntN(4), random.IntN(130)
	received := []api.Msg{prepare(low), accept(low, log...), promise(b, low, log...), accepted(b), accepted(b), refused(b, low)}
	switch at := random.IntN(60); {
	case at < 6:
		return func(m *manager.Manager) { m.Submit(says) }
	case at < 9:
		return func(m *manager.Manager) { m.Receive(host, msg(api.MLease, int(says.Dip))) }
	case at < 12:
		return func(m *manager.Manager) { m.Receive(host, msg(api.MHealth, int(says.Dip), time%2)) }
	case at < 42:
		return func(m *manager.Manager) { m.Receive(node, received[at%6]) }
	case at < 57:
		return func(m *manager.Manager) { m.Tick(time) }
	case at < 58:
		return func(m *manager.Manager) { m.Crash() }
	}
	return func(m *manager.Manager) { m.Start(time) }
}

// Two managers that are called alike answer alike, though one of them is also called by what does nothing.
func TestCallsThatDoNothing(t *testing.T) {
	learned, crashed := 0, 0
	for seed := range uint64(300) {
		random := rand.New(rand.NewPCG(seed, 170))
		n := 1 + random.IntN(3)
		place := random.IntN(n)
		one, other := begun(t, place, n), begun(t, place, n)
		for range 150 {
			call := anything(random)
			call(one.Manager)
			for range random.IntN(3) {
				nothing(random, other.Manager)
			}
			call(other.Manager)
			if a, b := one.view(), other.view(); a != b {
				t.Fatalf("%d: one tells %s, the other one %s", seed, short(a), short(b))
			}
			learned = max(learned, len(one.Learned()))
		}
		crashed += one.Boot()
	}
	if learned < 10 || crashed < 100 {
		t.Errorf("%d commands, %d crashes", learned, crashed)
	}
}

// P17.4

// Whoever hands something in may change it afterwards.
func TestWhatIsHandedInIsNotKept(t *testing.T) {
	d, p := begun(t, 0, 2), newPeer(t, 17)
	var want []api.Command
	for i := range 3 {
		room := append(make([]api.End, 0, 9), ends(3)...)
		says := serve(vipA, api.TCP, 80+i, room...)
		d.Submit(says)
		want = append(want, by(serve(vipA, api.TCP, 80+i, ends(3)...), 16, 0, i+1, 0))
		if text(says) != text(serve(vipA, api.TCP, 80+i, ends(3)...)) || text(room[:9]) != text(append(ends(3), make([]api.End, 6)...)) {
			t.Fatalf("it changed %s to %s", short(says), short(room[:9]))
		}
		clear(room)
	}
	p.answers(d)
	d.knows(want...)

	d, _ = asking(t)
	for _, x := range []api.Msg{prepare(ballot(1, 17)), accept(ballot(2, 17), some(6)...), promise(ballot(1, 16), ballot(9, 17), some(8)...), accepted(ballot(1, 16))} {
		nums, row := slices.Clone(x.Nums), slices.Clone(x.Data)
		d.Receive(17, x)
		if !slices.Equal(x.Nums, nums) || !slices.Equal(x.Data, row) {
			t.Fatalf("it changed the message %d", x.Kind)
		}
		clear(x.Nums)
		clear(x.Data)
	}
	d.Receive(18, accepted(ballot(1, 16)))
	d.knows(append(some(8), by(hurt(9), 16, 0, 1, 1))...)
	d.promised(ballot(2, 17))
}

// spoil changes all that posts hold, but for one of them.
func spoil(posts []api.Post, keep int) {
	for i := range posts {
		if i != keep {
			posts[i].To = 0
			clear(posts[i].Msg.Nums)
			clear(posts[i].Msg.Data)
			// The spare room, too.
			clear(posts[i].Msg.Nums[:cap(posts[i].Msg.Nums)])
			clear(posts[i].Msg.Data[:cap(posts[i].Msg.Data)])
		}
	}
}

func TestAnswersAreNewMemory(t *testing.T) {
	d := begunWith(t, 0, 1, 3, 3, stored(t, someSize, nil))
	d.Submit(serve(vipA, api.TCP, 80, ends(3)...))
	d.Submit(hurt(1))
	log := []api.Command{by(serve(vipA, api.TCP, 80, ends(3)...), 16, 0, 1, 0), by(hurt(1), 16, 0, 2, 0)}
	d.Out()
	for i := range 6 {
		d.Tick(8)
		posts := d.Out()
		spoil(posts, i)
		if want := to(config(log...), []int{32, 33, 34, 48, 49, 50}[i])[0]; text(posts[i]) != text(want) {
			t.Errorf("it posted %s, want %s", short(posts[i]), short(want))
		}
	}
	learned := d.Learned()
	clear(learned[0].Service.Ends)
	clear(learned)
	d.knows(log...)

	for _, begin := range []func(*testing.T) (*desk, api.Command){asking, telling} {
		d, _ := begin(t)
		want := accept(ballot(1, 16), by(hurt(9), 16, 0, 1, 1))
		for i := range 2 {
			d.Receive(17, promise(ballot(1, 16), api.Ballot{}))
			for range 4 {
				d.Tick(5)
			}
			posts := d.Out()
			posts = posts[len(posts)-2:]
			spoil(posts, i)
			if text(posts[i].Msg) != text(want) {
				t.Errorf("it posted %s, want %s", short(posts[i]), short(want))
			}
		}
	}
}

// Two managers have nothing in common.
func TestManagersAreApart(t *testing.T) {
	a, b := begun(t, 0, 1), begun(t, 0, 1)
	a.Submit(hurt(1))
	b.idles()
	b.knows()
	b.promised(ballot(1, 16))
	a.Crash()
	if !b.Up() {
		t.Error("a crash took two")
	}
}
