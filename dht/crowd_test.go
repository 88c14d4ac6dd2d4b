package dht_test

import (
	"math/rand/v2"
	"slices"
	"testing"

	"towpath/api"
	"towpath/dht"
)

// crowd is the parts of all muxes, the letters between them, and what was ever answered.
type crowd struct {
	t      *testing.T
	random *rand.Rand
	muxes  int
	room   int
	now    int
	parts  []*dht.Dht
	boots  []int
	flows  []api.Flow

	letters []letter
	fabric  fabric

	// asked and told are how many binds there were, and how many answers.
	asked, told int
	last        map[api.Flow]said
	sure        map[api.Flow][]said

	// spoiled is the flows that were answered not Sure, lost, or evicted.
	spoiled map[api.Flow]int
}

// letter is a message under way, which is there at a time.
type letter struct {
	from, to, due int
	msg           api.Msg
}

// fabric is how letters go: how many ticks each takes at most, and how many of a hundred are lost, or doubled.
type fabric struct {
	within, lost, doubled int
}

func newCrowd(t *testing.T, seed uint64, muxes, room, flows int, f fabric) *crowd {
	t.Helper()
	c := &crowd{t: t, random: generator(seed), muxes: muxes, room: room, fabric: f, last: map[api.Flow]said{}, sure: map[api.Flow][]said{}, spoiled: map[api.Flow]int{}}
	for place := range muxes {
		c.parts = append(c.parts, made(t, 32+place, 0, muxes, room))
		c.boots = append(c.boots, 0)
	}
	for range flows {
		c.flows = append(c.flows, tcp(c.random.IntN(65536)))
	}
	return c
}

// gather takes what a mux has posted, answered, and noted.
func (c *crowd) gather(node int) {
	c.t.Helper()
	d := c.parts[node-32]
	for _, p := range d.Out() {
		if p.Msg.Kind == api.MBound {
			nums := p.Msg.Nums
			f := api.Flow{Proto: nums[1], Src: api.Addr(nums[2]), SrcPort: nums[3], Dst: api.Addr(nums[4]), DstPort: nums[5]}
			c.hear(f, api.Addr(nums[6]), nums[7], nums[8] == 1)
			continue
		}
		c.send(letter{from: node, to: p.To, msg: p.Msg})
	}
	for _, b := range d.Answers() {
		if b.To != node {
			c.t.Fatalf("mux %d answered itself %v", node, b)
		}
		c.hear(b.Flow, b.Dip, b.Epoch, b.Sure)
	}
	for _, n := range d.Notes() {
		c.spoiled[n.Flow]++
	}
}

func (c *crowd) hear(f api.Flow, dip api.Addr, epoch int, sure bool) {
	c.told++
	c.last[f] = said{dip: dip, epoch: epoch, sure: sure}
	if sure {
		c.sure[f] = append(c.sure[f], c.last[f])
	} else {
		c.spoiled[f]++
	}
}

func (c *crowd) send(l letter) {
	if c.random.IntN(100) < c.fabric.lost {
		return
	}
	l.due = c.now + c.random.IntN(c.fabric.within+1)
	c.letters = append(c.letters, l)
	if c.random.IntN(100) < c.fabric.doubled {
		l.due = c.now + c.random.IntN(c.fabric.within+1)
		c.letters = append(c.letters, l)
	}
}

// deliver delivers all letters that are due, in any order, and those that come of them.
func (c *crowd) deliver() {
	c.t.Helper()
	for {
		var due []int
		for i, l := range c.letters {
			if l.due <= c.now {
				due = append(due, i)
			}
		}
		if len(due) == 0 {
			return
		}
		c.take(due[c.random.IntN(len(due))])
	}
}

// take delivers one letter.
func (c *crowd) take(at int) {
	c.t.Helper()
	l := c.letters[at]
	c.letters = slices.Delete(c.letters, at, at+1)
	c.parts[l.to-32].Receive(l.from, l.msg)
	c.gather(l.to)
}

func (c *crowd) tick() {
	c.t.Helper()
	c.now++
	for place, d := range c.parts {
		d.Tick()
		c.gather(32 + place)
	}
	c.deliver()
}

// bind has a mux ask one of the flow's owners.
func (c *crowd) bind(f api.Flow, at int, old bool) {
	c.t.Helper()
	owners := dht.Owners(f, c.muxes)
	to := owners[at%len(owners)]
	from, dip, epoch, was := 32+c.random.IntN(c.muxes), dipA+api.Addr(c.random.IntN(100)), c.random.IntN(5), api.Addr(0)
	if old {
		// As of one epoch there is one choice alone.
		epoch = c.last[f].epoch + c.random.IntN(3)
		dip, was = dipA+api.Addr(epoch), c.last[f].dip
	}
	c.asked++
	if c.random.IntN(2) == 0 {
		c.parts[to-32].Receive(from, mBind(c.asked, f, dip, epoch, was))
	} else {
		c.parts[to-32].Bind(from, c.asked, f, dip, epoch, was)
	}
	c.gather(to)
}

// bustle is binds of any flows at any owners, letters and ticks.
func (c *crowd) bustle(count, olds int) {
	c.t.Helper()
	for range count {
		switch at := c.random.IntN(10); {
		case at < 6:
			c.bind(c.flows[c.random.IntN(len(c.flows))], c.random.IntN(2), c.random.IntN(100) < olds)
		case at < 8:
			c.deliver()
		default:
			c.tick()
		}
	}
}

// flush has all that is under way come through, and all who wait be answered; binds that found no room aren't.
func (c *crowd) flush() {
	c.t.Helper()
	c.fabric = fabric{}
	for range 20 {
		c.tick()
	}
}

// calm is a flush, behind which each bind must be answered.
func (c *crowd) calm() {
	c.t.Helper()
	c.flush()
	if len(c.letters) > 0 || c.told != c.asked {
		c.t.Fatalf("%d letters are under way; %d binds were answered %d times", len(c.letters), c.asked, c.told)
	}
}

// alike wants all sure answers of a flow, from one of them on, to be the same.
func (c *crowd) alike(f api.Flow, from int) {
	c.t.Helper()
	for _, s := range c.sure[f][from:] {
		if s != c.sure[f][from] {
			c.t.Fatalf("%v of %d muxes was bound as %v", f, c.muxes, c.sure[f])
		}
	}
}

// P19.2

// Where letters take a tick at most, an owner has its answer ahead of its patience's end.
func TestTwoWitnessesAnswerAlike(t *testing.T) {
	for muxes := 1; muxes <= 8; muxes++ {
		for seed := range uint64(60) {
			c := newCrowd(t, seed, muxes, lastRoom, 6, fabric{within: int(seed % 2), doubled: int(seed % 3 * 20)})
			c.bustle(300, 0)
			c.calm()
			if len(c.spoiled) > 0 {
				t.Fatalf("of %d muxes %v were lost", muxes, c.spoiled)
			}
			for _, f := range c.flows {
				c.alike(f, 0)
			}
		}
	}
}

// Also where letters are lost, late, or doubled: unless an answer isn't sure.
func TestTwoWitnessesOfWhatIsSure(t *testing.T) {
	held := 0
	for muxes := 2; muxes <= 8; muxes++ {
		for seed := range uint64(100) {
			room := []int{lastRoom, 12, 6}[seed%3]
			c := newCrowd(t, seed, muxes, room, 20, fabric{within: int(seed % 7), lost: int(seed % 4), doubled: int(seed % 5 * 10)})
			c.bustle(80, 0)
			c.flush()
			for _, f := range c.flows {
				if c.spoiled[f] == 0 && len(c.sure[f]) > 1 {
					c.alike(f, 0)
					held++
				}
			}
		}
	}
	if held < 3000 {
		t.Errorf("%d flows were held against P19.2 alone", held)
	}
}

// Both owners are asked at once: the first one's record holds, in whatever order the letters come.
func TestTheFirstOwnersRecordHolds(t *testing.T) {
	f := owned(t, 1, 2, 33, 32)[0]
	for order := range 16 {
		c := newCrowd(t, 1, 2, 8, 0, fabric{})
		c.parts[1].Bind(32, 1, f, dipA, 3, 0)
		c.gather(33)
		c.parts[0].Bind(32, 2, f, dipB, 4, 0)
		c.gather(32)
		for step := range 4 {
			c.take((order >> step & 1) % len(c.letters))
		}
		if want := []said{{dipA, 3, true}, {dipA, 3, true}}; !slices.Equal(c.sure[f], want) || len(c.spoiled) > 0 || len(c.letters) > 0 {
			t.Fatalf("answered %v, want %v; %d letters are under way", c.sure[f], want, len(c.letters))
		}
		has(t, c.parts[0], f, dipA, 3)
		has(t, c.parts[1], f, dipA, 3)
	}
}

// P19.3

// crash has a mux begin anew, without what it knew.
func (c *crowd) crash(node int) {
	c.t.Helper()
	c.boots[node-32]++
	c.parts[node-32] = made(c.t, node, c.boots[node-32], c.muxes, c.room)
}

// outlive has an owner crash, and wants binds of flows whose answers were sure to be answered as before; it tells of how many.
func (c *crowd) outlive(node int) int {
	c.t.Helper()
	before := map[api.Flow]int{}
	for _, f := range c.flows {
		if c.spoiled[f] == 0 && len(c.sure[f]) > 0 {
			before[f] = len(c.sure[f]) - 1
		}
	}
	c.crash(node)
	c.fabric = fabric{within: 1, doubled: 10}
	for range 4 * len(c.flows) {
		c.bind(c.flows[c.random.IntN(len(c.flows))], c.random.IntN(2), false)
		if c.random.IntN(3) == 0 {
			c.tick()
		}
	}
	// So that both owners have each record again.
	for _, f := range c.flows {
		c.bind(f, 0, false)
		c.bind(f, 1, false)
	}
	c.flush()
	count := 0
	for f, from := range before {
		if c.spoiled[f] == 0 {
			c.alike(f, from)
			count++
		}
	}
	return count
}

func TestSureAnswersOutliveACrash(t *testing.T) {
	for muxes := 2; muxes <= 8; muxes++ {
		held := 0
		for seed := range uint64(60) {
			c := newCrowd(t, seed, muxes, lastRoom, 10, fabric{within: int(seed % 5), lost: int(seed % 3), doubled: int(seed % 2 * 20)})
			c.bustle(60, 0)
			c.flush()
			for range 6 {
				held += c.outlive(32 + c.random.IntN(muxes))
			}
		}
		if held < 1000 {
			t.Errorf("of %d muxes %d flows were held against P19.3 alone", muxes, held)
		}
	}
}

// Also behind binds with an old dip, if one comes behind the other.
func TestSureAnswersOfOtherDipsOutliveACrash(t *testing.T) {
	for muxes := 2; muxes <= 8; muxes++ {
		held, others := 0, 0
		for seed := range uint64(60) {
			c := newCrowd(t, seed, muxes, lastRoom, 10, fabric{within: int(seed % 2), doubled: int(seed % 3 * 20)})
			for range 20 {
				c.bustle(10, 20)
				c.flush()
				c.fabric = fabric{within: int(seed % 2), doubled: int(seed % 3 * 20)}
			}
			c.flush()
			for _, f := range c.flows {
				c.bind(f, 0, false)
				if len(slices.Compact(slices.Clone(c.sure[f]))) > 1 {
					others++
				}
			}
			c.flush()
			for range 6 {
				held += c.outlive(32 + c.random.IntN(muxes))
			}
		}
		if held < 1000 || others < 100 {
			t.Errorf("of %d muxes %d flows were held against P19.3 alone, %d of other dips", muxes, held, others)
		}
	}
}

// Where room is small, what was put out may be another one; all else outlives a crash.
func TestSureAnswersOutliveACrashWhereRoomIsSmall(t *testing.T) {
	held, spoiled := 0, 0
	for seed := range uint64(200) {
		c := newCrowd(t, seed, 4, 6, 14, fabric{within: 1})
		c.bustle(60, 0)
		c.flush()
		for range 3 {
			held += c.outlive(32 + c.random.IntN(4))
		}
		spoiled += len(c.spoiled)
	}
	if held < 300 || spoiled < 300 {
		t.Errorf("%d flows were held against P19.3 alone, %d were spoiled", held, spoiled)
	}
}

// Either owner's loss, by hand: the one that is left tells the new one what holds.
func TestEitherOwnerMayCrash(t *testing.T) {
	for _, crashes := range []int{33, 34} {
		for _, asked := range []int{33, 34} {
			f := owned(t, 1, 3, 33, 34)[0]
			c := newCrowd(t, 1, 3, 8, 0, fabric{})
			c.parts[asked-32].Bind(32, 1, f, dipA, 3, 0)
			c.gather(asked)
			c.deliver()
			c.crash(crashes)
			misses(t, c.parts[crashes-32], f)
			for _, again := range []int{crashes, 67 - crashes} {
				c.parts[again-32].Bind(32, 2, f, dipB, 4, 0)
				c.gather(again)
				c.deliver()
			}
			want := []said{{dipA, 3, true}, {dipA, 3, true}, {dipA, 3, true}}
			if !slices.Equal(c.sure[f], want) || len(c.spoiled) > 0 {
				t.Fatalf("answered %v, want %v", c.sure[f], want)
			}
			has(t, c.parts[1], f, dipA, 3)
			has(t, c.parts[2], f, dipA, 3)
		}
	}
}
