package manager

import (
	"errors"
	"slices"

	"towpath/api"
	"towpath/codec"
	"towpath/round"
	"towpath/state"
	"towpath/vote"
)

const (
	// maxAge is the age at which a job ends.
	maxAge = 40

	// A manager that was refused waits for its turn, so that managers don't refuse one another for ever.
	turnTicks = 4
	turnAt    = 2
)

// job is a command that is to come into the log; without one the log is to be learned.
type job struct {
	*round.Round
	want []api.Command

	// host is the host that asked for a lease, or 0.
	host    int
	age     int
	refused bool

	// above is the greatest ballot by which it was refused.
	above api.Ballot
}

// isLike tells whether another job has a command that says the same, for the same host.
func (j *job) isLike(other *job) bool {
	return j.host == other.host && vote.Same(unnamed(j.want), unnamed(other.want))
}

// refuse says that a ballot refused the job.
func (j *job) refuse(by api.Ballot) {
	j.refused = true
	if vote.Less(j.above, by) {
		j.above = by
	}
}

// come has a job wait, unless one that is like it is there, or too many wait.
func (m *Manager) come(j *job) {
	if m.Busy() && j.isLike(m.work) || slices.ContainsFunc(m.waiting, j.isLike) || len(m.waiting) >= api.MaxWaits {
		return
	}
	m.waiting = append(m.waiting, j)
	m.next()
}

// next begins the jobs that wait, till one of them is to be worked on.
func (m *Manager) next() {
	for !m.Busy() && len(m.waiting) > 0 {
		m.work = m.waiting[0]
		m.waiting = slices.Delete(m.waiting, 0, 1)
		m.begin()
	}
}

// begin begins a round of the job that is worked on.
func (m *Manager) begin() {
	j := m.work
	j.refused = false
	ballot := m.voter.Claim(j.above)
	accepted, log, err := m.voter.Prepare(ballot)
	if err != nil {
		m.end()
		return
	}
	// The command, and how many managers there are, were found good before.
	j.Round, _ = round.New(m.managers, ballot, j.want...)
	j.Promise(m.node(), accepted, log)
	m.goOn()
}

// goOn does what the stage asks for to which the round has come.
func (m *Manager) goOn() {
	if m.work.Stage() == round.Tell && !m.acceptOwn() {
		m.end()
		return
	}
	switch m.work.Stage() {
	case round.Done:
		m.learn()
		m.end()
	case round.Full:
		m.end()
	default:
		m.ask()
	}
}

// acceptOwn has the own voter accept the round's log, or refuse it; false, if it can't.
func (m *Manager) acceptOwn() bool {
	j := m.work
	err := m.voter.Accept(j.Ballot(), j.Log())
	switch {
	case err == nil:
		j.Accepted(m.node())
	case errors.Is(err, api.ErrBallot):
		j.refuse(m.voter.Promised())
	default:
		return false
	}
	return true
}

// end ends the job that is worked on.
func (m *Manager) end() {
	m.work = nil
}

// ask asks the managers that are missing in the round.
func (m *Manager) ask() {
	j := m.work
	x := message(api.MPrepare, j.Ballot())
	if j.Stage() == round.Tell {
		x = withLog(message(api.MAccept, j.Ballot()), j.Log())
	}
	others := slices.DeleteFunc(j.Missing(), func(node int) bool { return node == m.node() })
	m.post(x, others...)
}

// asks tells whether the round that is worked on has this ballot.
func (m *Manager) asks(b api.Ballot) bool {
	return m.Busy() && m.work.Ballot() == b
}

// hearPromise takes a promise for the round that is worked on.
func (m *Manager) hearPromise(from int, accepted api.Ballot, row []byte) {
	log, err := vote.Read(row)
	if err != nil {
		return
	}
	if m.work.Stage() == round.Ask && m.work.Promise(from, accepted, log) != round.Ask {
		m.goOn()
		m.next()
	}
}

// hearAccepted takes an acceptance for the round that is worked on.
func (m *Manager) hearAccepted(from int) {
	if m.work.Accepted(from) == round.Done {
		m.goOn()
		m.next()
	}
}

// learn learns the log of the round that is done.
func (m *Manager) learn() {
	j := m.work
	if len(j.Log()) > len(m.Learned()) {
		m.learned = j.Round
		m.tell()
	}
	if j.host != 0 {
		m.grant()
	}
}

// grant tells the host that asked of the lease that its command came to.
func (m *Manager) grant() {
	j := m.work
	_, results := state.Fold(j.Log()...)
	if r := results[j.Place()-1]; r.Err == 0 {
		m.post(codec.Make(api.MGrant, int(j.want[0].Dip), int(r.Lease.Vip), r.Lease.First, r.Lease.Expires), j.host)
	}
}

// grow makes the job that is worked on older by a tick.
func (m *Manager) grow() {
	if !m.Busy() {
		return
	}
	j := m.work
	j.age++
	switch {
	case j.age == maxAge:
		m.end()
	case j.refused && m.isTurn(turnTicks, turnAt):
		m.begin()
	case !j.refused && j.age%api.Retry == 0:
		m.ask()
	}
	m.next()
}

// unnamed is commands without who gave them, and when: what they say.
func unnamed(commands []api.Command) []api.Command {
	var list []api.Command
	for _, c := range commands {
		c.Node, c.Boot, c.Seq, c.Time = 0, 0, 0, 0
		list = append(list, c)
	}
	return list
}
