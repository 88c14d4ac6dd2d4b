package manager_test

import (
	"math/rand/v2"
	"slices"
	"testing"

	"towpath/api"
	"towpath/manager"
	"towpath/stable"
	"towpath/vote"
)

func generator(seed uint64) *rand.Rand {
	return rand.New(rand.NewPCG(seed, 17))
}

// A letter is a message under way.
type letter struct {
	from, to int
	msg      api.Msg
}

// A cluster is all managers, the letters between them, and all that was ever learned.
type cluster struct {
	t        *testing.T
	random   *rand.Rand
	managers []*manager.Manager
	letters  []letter
	now      int

	// longest is the longest log that was learned, and submitted what the managers were told.
	longest   []api.Command
	submitted int

	// apart is the managers whose letters are all lost.
	apart map[int]bool
}

func newCluster(t *testing.T, seed uint64, n int) *cluster {
	t.Helper()
	c := &cluster{t: t, random: generator(seed), apart: map[int]bool{}}
	for place := range n {
		s, err := stable.New(1 << 24)
		if err != nil {
			t.Fatal(err)
		}
		m, err := manager.New(place, n, 1, 1, s)
		if err != nil {
			t.Fatal(err)
		}
		c.managers = append(c.managers, m)
	}
	return c
}

// gather takes what a manager posted, and holds what it learned against all that was learned before.
func (c *cluster) gather(place int) {
	c.t.Helper()
	m := c.managers[place]
	for _, post := range m.Out() {
		if post.To < api.Muxes {
			c.letters = append(c.letters, letter{16 + place, post.To, post.Msg})
		}
	}
	log := m.Learned()
	both := min(len(log), len(c.longest))
	if !vote.Same(log[:both], c.longest[:both]) {
		c.t.Fatalf("at %d manager %d learned %s; learned was %s", c.now, place, short(log), short(c.longest))
	}
	if len(log) > len(c.longest) {
		c.longest = log
	}
}

func (c *cluster) do(place int, do func(m *manager.Manager)) {
	c.t.Helper()
	do(c.managers[place])
	c.gather(place)
}

// submit has a manager be told a command that no other one is like.
func (c *cluster) submit(place int) api.Command {
	c.t.Helper()
	c.submitted++
	says := serve(vipA, api.TCP, 1+c.submitted%1023, api.End{Dip: dip(c.submitted / 1023), Port: 1, Weight: 1})
	c.do(place, func(m *manager.Manager) { m.Submit(says) })
	return says
}

func (c *cluster) take(at int) letter {
	l := c.letters[at]
	c.letters = slices.Delete(c.letters, at, at+1)
	return l
}

func (c *cluster) deliver(l letter) {
	c.t.Helper()
	if !c.apart[l.from] && !c.apart[l.to] {
		c.do(l.to-16, func(m *manager.Manager) { m.Receive(l.from, l.msg) })
	}
}

// deliverAll delivers all letters, one behind the other or in any order, and those that come of them.
func (c *cluster) deliverAll(inOrder bool) {
	c.t.Helper()
	for count := 0; len(c.letters) > 0; count++ {
		if count > 100000 {
			c.t.Fatal("letters without end")
		}
		at := 0
		if !inOrder {
			at = c.random.IntN(len(c.letters))
		}
		c.deliver(c.take(at))
	}
}

func (c *cluster) tick() {
	c.t.Helper()
	c.now++
	for place := range c.managers {
		c.do(place, func(m *manager.Manager) { m.Tick(c.now) })
	}
}

// crash and start are of any manager; most of the time all are up.
func (c *cluster) crash() {
	c.t.Helper()
	c.do(c.random.IntN(len(c.managers)), func(m *manager.Manager) { m.Crash() })
}

func (c *cluster) start() {
	c.t.Helper()
	c.do(c.random.IntN(len(c.managers)), func(m *manager.Manager) { m.Start(c.now) })
}

// anything is one thing that happens, of those that a script may let happen.
func (c *cluster) anything() {
	c.t.Helper()
	switch at := c.random.IntN(200); {
	case at < 8:
		c.submit(c.random.IntN(len(c.managers)))
	case at < 20:
		c.tick()
	case at == 20:
		c.crash()
	case at < 26:
		c.start()
	case len(c.letters) == 0:
	case at < 35:
		c.take(c.random.IntN(len(c.letters)))
	case at < 60:
		c.letters = append(c.letters, c.letters[c.random.IntN(len(c.letters))])
	case at < 120:
		c.deliver(c.take(c.random.IntN(len(c.letters))))
	default:
		c.deliver(c.take(0))
	}
}

// P17.2

func TestOneLog(t *testing.T) {
	for n := 1; n <= 8; n++ {
		learned, crashed := 0, 0
		for seed := range uint64(30) {
			c := newCluster(t, seed, n)
			for range 800 + 200*n {
				c.anything()
			}
			learned += len(c.longest)
			for _, m := range c.managers {
				crashed += m.Boot()
			}
		}
		// Else nothing was held against anything.
		if learned < 30*4 || crashed < 30*2 {
			t.Errorf("of %d managers %d commands were learned, behind %d crashes", n, learned, crashed)
		}
	}
}

// Whoever is told more than half may go on; two halves of a cloud never both do.
func TestOneLogOfTwoHalves(t *testing.T) {
	for n := 2; n <= 8; n++ {
		for seed := range uint64(8) {
			c := newCluster(t, 1000+seed, n)
			for range 4 {
				// Other managers are apart from now on.
				c.apart = map[int]bool{}
				for place := range n {
					c.apart[16+place] = c.random.IntN(2) == 0
				}
				for range 16 {
					c.submit(c.random.IntN(n))
					c.deliverAll(c.random.IntN(2) == 0)
					c.tick()
				}
			}
		}
	}
}

// P17.3

func (c *cluster) has(says api.Command) bool {
	return slices.ContainsFunc(c.longest, func(have api.Command) bool {
		return text(by(have, 0, 0, 0, 0)) == text(by(says, 0, 0, 0, 0))
	})
}

// silence has some managers be down, or apart, but leaves more than half.
func (c *cluster) silence() {
	c.t.Helper()
	n := len(c.managers)
	for _, place := range c.random.Perm(n)[:c.random.IntN((n+1)/2)] {
		if c.random.IntN(2) == 0 {
			c.do(place, func(m *manager.Manager) { m.Crash() })
		} else {
			c.apart[16+place] = true
		}
	}
}

// tellAll has all managers that are there be told a command each.
func (c *cluster) tellAll() []api.Command {
	c.t.Helper()
	var said []api.Command
	for place, m := range c.managers {
		if m.Up() && !c.apart[16+place] {
			said = append(said, c.submit(place))
		}
	}
	return said
}

// Of two managers that ask at once one is refused, and waits for its turn: that comes within 4 ticks for each manager.
func (c *cluster) ticksTill(said []api.Command, inOrder bool) {
	c.t.Helper()
	var missing []api.Command
	for range 4*len(c.managers) + 5 {
		c.deliverAll(inOrder)
		missing = slices.DeleteFunc(slices.Clone(said), c.has)
		if len(missing) == 0 {
			return
		}
		c.tick()
	}
	c.t.Fatalf("at %d: of %d commands %d aren't learned", c.now, len(said), len(missing))
}

func TestCommandsAreLearned(t *testing.T) {
	for n := 1; n <= 8; n++ {
		for seed := range uint64(12) {
			c := newCluster(t, 2000+seed, n)
			c.now = c.random.IntN(200)
			c.silence()
			for range 5 {
				c.ticksTill(c.tellAll(), seed%2 == 0)
			}
		}
	}
}

// Whatever was before: as soon as more than half hear one another, and the jobs of before are over, commands are learned.
func TestCommandsAreLearnedBehindAnything(t *testing.T) {
	for n := 1; n <= 8; n++ {
		for seed := range uint64(8) {
			c := newCluster(t, 3000+seed, n)
			for range 800 {
				c.anything()
			}
			for place := range c.managers {
				c.do(place, func(m *manager.Manager) { m.Start(c.now) })
			}
			c.silence()
			for range 4*n + 5 {
				c.deliverAll(true)
				c.tick()
			}
			for range 4 {
				c.ticksTill(c.tellAll(), seed%2 == 0)
			}
		}
	}
}

// A letter may be lost now and then: it is asked again.
func TestCommandsAreLearnedWhereLettersAreLost(t *testing.T) {
	for n := 2; n <= 8; n++ {
		for seed := range uint64(20) {
			c := newCluster(t, 4000+seed, n)
			says := c.submit(c.random.IntN(n))
			for age := 0; age < 39 && !c.has(says); age++ {
				for range len(c.letters) {
					if l := c.take(0); c.random.IntN(4) > 0 {
						c.deliver(l)
					}
				}
				c.tick()
			}
			if !c.has(says) {
				t.Errorf("of %d managers, %d: it isn't learned", n, seed)
			}
		}
	}
}

// Who is up learns what all the others know, as a learning comes to it from time to time.
func TestLearningsSpreadTheLog(t *testing.T) {
	for n := 1; n <= 8; n++ {
		for seed := range uint64(8) {
			c := newCluster(t, 5000+seed, n)
			for range 800 {
				c.anything()
			}
			for place := range c.managers {
				c.do(place, func(m *manager.Manager) { m.Start(c.now) })
			}
			for range 20*n + 45 {
				c.deliverAll(true)
				c.tick()
			}
			c.deliverAll(true)
			for place, m := range c.managers {
				if log := m.Learned(); len(log) != len(c.longest) {
					t.Errorf("manager %d of %d learned %d commands of %d", place, n, len(log), len(c.longest))
				}
			}
		}
	}
}
