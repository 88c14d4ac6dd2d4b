package round_test

import (
	"errors"
	"fmt"
	"math"
	"math/rand/v2"
	"slices"
	"testing"

	"towpath/api"
	"towpath/round"
	"towpath/stable"
	"towpath/vote"
)

const (
	dip api.Addr = 0x0a010002

	lastTime = 1 << 40
)

var (
	// majority is how many of so many managers are more than half.
	majority = [9]int{0, 1, 2, 2, 3, 3, 4, 4, 5}

	// notNodes are no managers, whatever their number is.
	notNodes = []int{-1, 0, 1, 2, 15, 24, 25, 32, 48, 56, 255, 256 + 16, 1<<32 + 16, -16, math.MaxInt, math.MaxInt - 15, math.MinInt, math.MinInt + 16, math.MinInt + 17}
)

func ballot(n, node int) api.Ballot {
	return api.Ballot{N: n, Node: node}
}

func generator(seed uint64) *rand.Rand {
	return rand.New(rand.NewPCG(seed, 15))
}

// ends is so many ends in form.
func ends(n int) []api.End {
	var list []api.End
	for i := range n {
		list = append(list, api.End{Dip: dip + api.Addr(i), Port: 8080 + i, Weight: 1 + i})
	}
	return list
}

// sayings is a command of each kind, of each way to say it.
func sayings() []api.Command {
	return []api.Command{
		{Node: 16, Kind: api.CService, Service: api.Service{Vip: 0x01010101, Proto: api.TCP, Port: 80, Ends: ends(3)}},
		{Node: 16, Kind: api.CService, Service: api.Service{Vip: 0x01010101, Proto: api.UDP, Port: 53}},
		{Node: 16, Kind: api.CSnat, Dip: dip, Vip: 0x01010101, Up: true},
		{Node: 16, Kind: api.CSnat, Dip: dip},
		{Node: 16, Kind: api.CHealth, Dip: dip, Up: true},
		{Node: 16, Kind: api.CHealth, Dip: dip},
		{Node: 16, Kind: api.CLease, Dip: dip},
	}
}

// command is one of the sayings, by a manager, with a number.
func command(node, boot, seq int) api.Command {
	c := sayings()[seq%7]
	c.Node, c.Boot, c.Seq, c.Time = node, boot, seq, 3*seq
	return c
}

// many is a log of so many commands, which begins as every longer one does.
func many(n int) []api.Command {
	var log []api.Command
	for i := range n {
		log = append(log, command(16+i%3, i/100, i/3))
	}
	return log
}

// notLogs are logs that aren't in form, each by another fault.
func notLogs() [][]api.Command {
	change := func(do func(c *api.Command)) []api.Command {
		log := many(4)
		do(&log[2])
		return log
	}
	return [][]api.Command{
		many(257),
		many(1000),
		slices.Concat(many(1), many(1)),
		slices.Concat(many(8), many(3)[2:]),
		{{}},
		change(func(c *api.Command) { c.Node = 15 }),
		change(func(c *api.Command) { c.Boot = -1 }),
		change(func(c *api.Command) { c.Seq = lastTime + 1 }),
		change(func(c *api.Command) { c.Time = -1 }),
		change(func(c *api.Command) { c.Kind = 5 }),
		change(func(c *api.Command) { c.Dip = 7 }),
		change(func(c *api.Command) { c.Service.Ends = append(ends(1), api.End{}) }),
	}
}

// text is a log as it is printed: no commands and no ends are the same, nil or not.
func text(log []api.Command) string {
	return fmt.Sprint(log)
}

func alike(a, b []api.Command) bool {
	return text(a) == text(b)
}

// short is what a failing test tells of a value.
func short(value any) string {
	return fmt.Sprintf("%.400s", fmt.Sprint(value))
}

// managers is the numbers from 16 on.
func managers(n int) []int {
	var nodes []int
	for i := range n {
		nodes = append(nodes, 16+i)
	}
	return nodes
}

func without(nodes []int, out ...int) []int {
	return slices.DeleteFunc(slices.Clone(nodes), func(node int) bool { return slices.Contains(out, node) })
}

func begun(t *testing.T, n int, b api.Ballot, want ...api.Command) *round.Round {
	t.Helper()
	r, err := round.New(n, b, want...)
	if r == nil || err != nil {
		t.Fatalf("New(%d, %v, %s) = %v, %v", n, b, short(want), r, err)
	}
	return r
}

func notBegun(t *testing.T, fault error, n int, want ...api.Command) {
	t.Helper()
	if r, err := round.New(n, ballot(1, 16), want...); r != nil || !errors.Is(err, fault) {
		t.Fatalf("New(%d, _, %s) = %v, %v, want nil, %v", n, short(want), r, err, fault)
	}
}

// promise and accepted want a stage as the answer.
func promise(t *testing.T, r *round.Round, stage, node int, accepted api.Ballot, log ...api.Command) {
	t.Helper()
	if got := r.Promise(node, accepted, log); got != stage {
		t.Fatalf("Promise(%d, %v, %s) = %d, want %d", node, accepted, short(log), got, stage)
	}
	if got := r.Stage(); got != stage {
		t.Fatalf("Stage() = %d, want %d", got, stage)
	}
}

func accepted(t *testing.T, r *round.Round, stage, node int) {
	t.Helper()
	if got := r.Accepted(node); got != stage {
		t.Fatalf("Accepted(%d) = %d, want %d", node, got, stage)
	}
	if got := r.Stage(); got != stage {
		t.Fatalf("Stage() = %d, want %d", got, stage)
	}
}

// view is all that a round tells.
type view struct {
	stage, place int
	ballot       api.Ballot
	missing      []int
	log          []api.Command
}

func tells(t *testing.T, r *round.Round, want view) {
	t.Helper()
	// Twice, as asking changes nothing.
	for range 2 {
		got := view{r.Stage(), r.Place(), r.Ballot(), r.Missing(), r.Log()}
		if got.stage != want.stage || got.place != want.place || got.ballot != want.ballot || !slices.Equal(got.missing, want.missing) || !alike(got.log, want.log) {
			t.Fatalf("it tells %s, want %s", short(got), short(want))
		}
	}
}

// asks, tellsLog and isDone want all that a round tells in a stage.
func asks(t *testing.T, r *round.Round, missing ...int) {
	t.Helper()
	tells(t, r, view{stage: 1, ballot: ballot(5, 17), missing: missing})
}

func tellsLog(t *testing.T, r *round.Round, place int, missing []int, log ...api.Command) {
	t.Helper()
	tells(t, r, view{stage: 2, place: place, ballot: ballot(5, 17), missing: missing, log: log})
}

func isDone(t *testing.T, r *round.Round, place int, log ...api.Command) {
	t.Helper()
	tells(t, r, view{stage: 3, place: place, ballot: ballot(5, 17), log: log})
}

func isFull(t *testing.T, r *round.Round) {
	t.Helper()
	tells(t, r, view{stage: 4, ballot: ballot(5, 17)})
}

// P15.1

func TestExample(t *testing.T) {
	c := api.Command{Node: 16, Seq: 1, Kind: api.CHealth, Dip: dip}
	one := ballot(1, 16)
	r := begun(t, 3, one, c)
	tells(t, r, view{stage: round.Ask, ballot: one, missing: []int{16, 17, 18}})
	promise(t, r, round.Ask, 16, api.Ballot{})
	promise(t, r, round.Tell, 17, api.Ballot{})
	tells(t, r, view{stage: round.Tell, place: 1, ballot: one, missing: []int{16, 17, 18}, log: []api.Command{c}})
	accepted(t, r, round.Tell, 18)
	accepted(t, r, round.Done, 16)
	tells(t, r, view{stage: round.Done, place: 1, ballot: one, log: []api.Command{c}})
}

func TestStages(t *testing.T) {
	// Untyped constants are numbers of any kind.
	stages := [4]uint8{round.Ask, round.Tell, round.Done, round.Full}
	if stages != [4]uint8{1, 2, 3, 4} {
		t.Errorf("%v", stages)
	}
}

func TestNewRefusesOtherCounts(t *testing.T) {
	for _, n := range []int{0, -1, -2, 9, 10, 16, 255, 256 + 3, 1<<32 + 3, math.MaxInt, math.MinInt, math.MinInt + 3} {
		notBegun(t, api.ErrRange, n)
		notBegun(t, api.ErrRange, n, many(1)...)
		notBegun(t, api.ErrRange, n, many(2)...)
		notBegun(t, api.ErrRange, n, api.Command{})
	}
}

func TestNewRefusesOtherCommands(t *testing.T) {
	for n := 1; n <= 8; n++ {
		for _, count := range []int{2, 3, 9, 256, 257} {
			notBegun(t, api.ErrForm, n, many(count)...)
		}
		notBegun(t, api.ErrForm, n, api.Command{})
		notBegun(t, api.ErrForm, n, api.Command{}, many(1)[0])
		for _, log := range notLogs() {
			notBegun(t, api.ErrForm, n, log...)
			for _, c := range log {
				if vote.Check(c) != nil {
					notBegun(t, api.ErrForm, n, c)
				}
			}
		}
	}
}

// Any ballot will do: what it is worth, voters tell.
func TestNewTakesAllCommandsAndBallots(t *testing.T) {
	for _, b := range []api.Ballot{{}, ballot(1, 16), ballot(0, 16), ballot(-1, -1), ballot(lastTime, 23), ballot(lastTime+1, 24), ballot(math.MaxInt, math.MinInt), ballot(math.MinInt, math.MaxInt)} {
		for n := 1; n <= 8; n++ {
			for _, c := range sayings() {
				for _, node := range []int{16, 15 + n, 23} {
					c.Node = node
					tells(t, begun(t, n, b, c), view{stage: 1, ballot: b, missing: managers(n)})
				}
			}
			tells(t, begun(t, n, b), view{stage: 1, ballot: b, missing: managers(n)})
			tells(t, begun(t, n, b, []api.Command{}...), view{stage: 1, ballot: b, missing: managers(n)})
		}
	}
}

// More than half must answer: of an even number, half isn't enough.
func TestMoreThanHalfOfAll(t *testing.T) {
	for n := 1; n <= 8; n++ {
		for seed := range uint64(20) {
			random := generator(seed)
			nodes := managers(n)
			order := slices.Clone(nodes)
			random.Shuffle(n, func(i, j int) { order[i], order[j] = order[j], order[i] })
			c := command(17, 2, 9)
			r := begun(t, n, ballot(5, 17), c)
			for count := 1; count < majority[n]; count++ {
				promise(t, r, round.Ask, order[count-1], api.Ballot{})
				asks(t, r, without(nodes, order[:count]...)...)
			}
			promise(t, r, round.Tell, order[majority[n]-1], api.Ballot{})
			tellsLog(t, r, 1, nodes, c)
			random.Shuffle(n, func(i, j int) { order[i], order[j] = order[j], order[i] })
			for count := 1; count < majority[n]; count++ {
				accepted(t, r, round.Tell, order[count-1])
				tellsLog(t, r, 1, without(nodes, order[:count]...), c)
			}
			accepted(t, r, round.Done, order[majority[n]-1])
			isDone(t, r, 1, c)
		}
	}
}

// strangers is who isn't one of so many managers.
func strangers(n int) []int {
	return slices.Concat(notNodes, managers(8)[n:])
}

func TestAnswersOfOthersAreNothing(t *testing.T) {
	for n := 1; n <= 8; n++ {
		nodes := managers(n)
		r := begun(t, n, ballot(5, 17))
		for _, node := range strangers(n) {
			promise(t, r, round.Ask, node, ballot(9, 23), many(3)...)
			accepted(t, r, round.Ask, node)
			asks(t, r, nodes...)
		}
		for _, node := range nodes[:majority[n]] {
			r.Promise(node, ballot(3, 16), many(2))
		}
		tellsLog(t, r, 0, nodes, many(2)...)
		for _, node := range strangers(n) {
			promise(t, r, round.Tell, node, ballot(9, 23), many(3)...)
			accepted(t, r, round.Tell, node)
			tellsLog(t, r, 0, nodes, many(2)...)
		}
	}
}

func TestAnswersCountOnce(t *testing.T) {
	for n := 2; n <= 8; n++ {
		nodes := managers(n)
		for _, node := range nodes {
			c := command(23, 0, 1)
			r := begun(t, n, ballot(5, 17), c)
			promise(t, r, round.Ask, node, ballot(2, 16), many(2)...)
			for i := range 2 * n {
				promise(t, r, round.Ask, node, ballot(3+i, 16), many(3)...)
				promise(t, r, round.Ask, node, ballot(2, 16), many(2)...)
			}
			others := without(nodes, node)
			asks(t, r, others...)
			for _, other := range others[:majority[n]-1] {
				r.Promise(other, api.Ballot{}, nil)
			}
			log := append(many(2), c)
			tellsLog(t, r, 3, nodes, log...)
			for range 2 * n {
				accepted(t, r, round.Tell, node)
			}
			tellsLog(t, r, 3, others, log...)
			for i, other := range others[:majority[n]-1] {
				accepted(t, r, map[bool]int{false: round.Tell, true: round.Done}[i == majority[n]-2], other)
			}
			isDone(t, r, 3, log...)
		}
	}
}

// A promise with a log that isn't in form is none: that manager may still promise.
func TestPromisesWithOtherLogsAreNothing(t *testing.T) {
	for i, log := range notLogs() {
		for _, b := range []api.Ballot{{}, ballot(2, 16), ballot(9, 23)} {
			r := begun(t, 3, ballot(5, 17))
			for _, node := range managers(3) {
				promise(t, r, round.Ask, node, b, log...)
			}
			asks(t, r, 16, 17, 18)
			promise(t, r, round.Ask, 18, ballot(1, 16), many(i)...)
			promise(t, r, round.Ask, 18, b, log...)
			promise(t, r, round.Ask, 16, b, log...)
			asks(t, r, 16, 17)
			promise(t, r, round.Tell, 16, api.Ballot{})
			tellsLog(t, r, 0, managers(3), many(i)...)
		}
	}
}

func TestTheStagesTakeOneKindOfAnswer(t *testing.T) {
	for n := 1; n <= 8; n++ {
		nodes, c := managers(n), command(16, 1, 1)
		r := begun(t, n, ballot(5, 17), c)
		for _, node := range nodes {
			accepted(t, r, round.Ask, node)
		}
		asks(t, r, nodes...)
		for _, node := range nodes[n-majority[n]:] {
			r.Promise(node, ballot(2, 19), many(2))
		}
		log := append(many(2), c)
		tellsLog(t, r, 3, nodes, log...)
		for _, node := range nodes {
			promise(t, r, round.Tell, node, ballot(4, 16), many(1)...)
		}
		tellsLog(t, r, 3, nodes, log...)
		for _, node := range nodes[:majority[n]] {
			r.Accepted(node)
		}
		isDone(t, r, 3, log...)
		for _, node := range slices.Concat(nodes, strangers(n)) {
			promise(t, r, round.Done, node, ballot(4, 16), many(1)...)
			accepted(t, r, round.Done, node)
		}
		isDone(t, r, 3, log...)
	}
}

// told is what a promise says.
type told struct {
	ballot api.Ballot
	log    []api.Command
}

// orders is all orders of a list.
func orders[T any](list []T) [][]T {
	if len(list) == 0 {
		return [][]T{nil}
	}
	var all [][]T
	for i := range list {
		rest := slices.Delete(slices.Clone(list), i, i+1)
		for _, order := range orders(rest) {
			all = append(all, append(order, list[i]))
		}
	}
	return all
}

// inAnyOrder wants a log of promises, in whatever order they are told.
func inAnyOrder(t *testing.T, log []api.Command, promises ...told) {
	t.Helper()
	for _, order := range orders(promises) {
		inOrder(t, log, order...)
	}
}

func inOrder(t *testing.T, log []api.Command, promises ...told) {
	t.Helper()
	// So many managers that these promises are just more than half.
	n := 2*len(promises) - 1
	r := begun(t, n, ballot(5, 17))
	for i, p := range promises {
		stage := round.Ask
		if i == len(promises)-1 {
			stage = round.Tell
		}
		promise(t, r, stage, 16+i, p.ballot, p.log...)
	}
	tellsLog(t, r, 0, managers(n), log...)
}

func TestTheLogOfTheGreatestBallot(t *testing.T) {
	rising := []api.Ballot{ballot(0, 1), ballot(0, 16), ballot(0, math.MaxInt), ballot(1, math.MinInt), ballot(1, -1), ballot(1, 0), ballot(1, 16), ballot(1, 17), ballot(1, 23), ballot(2, 16), ballot(3, 0), ballot(255, 17), ballot(256, 16), ballot(lastTime, 16), ballot(lastTime, 23), ballot(math.MaxInt, 16), ballot(math.MaxInt, math.MaxInt)}
	for i, greatest := range rising {
		inAnyOrder(t, many(1), told{greatest, many(1)})
		inAnyOrder(t, many(1), told{greatest, many(1)}, told{})
		inAnyOrder(t, nil, told{greatest, nil}, told{})
		for _, b := range rising[:i] {
			// The greater ballot's log counts, be it longer or shorter.
			inAnyOrder(t, many(2), told{greatest, many(2)}, told{b, many(1)})
			inAnyOrder(t, many(1), told{greatest, many(1)}, told{b, many(2)})
			inAnyOrder(t, nil, told{greatest, nil}, told{b, many(2)}, told{b, many(3)})
			inAnyOrder(t, many(5)[3:], told{greatest, many(5)[3:]}, told{b, many(4)}, told{}, told{rising[0], nil})
		}
	}
}

// Ballots that aren't above the zero ballot tell no log.
func TestNoLogOfTheZeroBallot(t *testing.T) {
	low := []api.Ballot{{}, ballot(0, -1), ballot(0, math.MinInt), ballot(-1, 0), ballot(-1, 16), ballot(-1, math.MaxInt), ballot(math.MinInt, 16), ballot(math.MinInt, math.MinInt)}
	for _, b := range low {
		inAnyOrder(t, nil, told{b, many(1)})
		for _, other := range low {
			inAnyOrder(t, nil, told{b, many(1)}, told{other, many(2)})
			inAnyOrder(t, many(3), told{b, many(1)}, told{other, many(2)}, told{ballot(0, 1), many(3)})
			inAnyOrder(t, nil, told{b, many(1)}, told{other, many(2)}, told{ballot(1, 16), nil})
		}
	}
}

// Of several promises with one ballot the first one counts.
func TestTheFirstOfAlikeBallots(t *testing.T) {
	for _, b := range []api.Ballot{ballot(0, 1), ballot(1, 16), ballot(3, 18), ballot(lastTime, 23)} {
		low := told{api.Ballot{}, many(6)}
		for _, logs := range orders([][]api.Command{nil, many(1), many(2), many(5)[2:]}) {
			all := []told{{b, logs[0]}, {b, logs[1]}, {b, logs[2]}, {b, logs[3]}}
			for i := range all {
				inOrder(t, logs[0], slices.Insert(slices.Clone(all), i, low)[:4]...)
			}
			inOrder(t, logs[1], low, all[1], all[0])
			inOrder(t, logs[1], all[1], all[3], low, all[2])
		}
	}
}

// chosen is a round of one manager that promised this log.
func chosen(t *testing.T, stage int, log []api.Command, want ...api.Command) *round.Round {
	t.Helper()
	r := begun(t, 1, ballot(5, 17), want...)
	promise(t, r, stage, 16, ballot(1, 16), log...)
	return r
}

func TestTheWantedCommandIsPutBehind(t *testing.T) {
	for _, c := range sayings() {
		c.Node, c.Boot, c.Seq, c.Time = 20, 3, 4, 5
		for n := range 12 {
			r := chosen(t, round.Tell, many(n), c)
			tellsLog(t, r, n+1, []int{16}, append(many(n), c)...)
			accepted(t, r, round.Done, 16)
			isDone(t, r, n+1, append(many(n), c)...)
		}
	}
}

func TestNoCommandIsWanted(t *testing.T) {
	for n := range 12 {
		r := chosen(t, round.Tell, many(n))
		tellsLog(t, r, 0, []int{16}, many(n)...)
		accepted(t, r, round.Done, 16)
		isDone(t, r, 0, many(n)...)
	}
}

// A log that has a command with the wanted one's Node, Boot and Seq has it, whatever it says there.
func TestTheWantedCommandIsThere(t *testing.T) {
	for n := 1; n < 12; n++ {
		for place, c := range many(n) {
			tellsLog(t, chosen(t, round.Tell, many(n), c), place+1, []int{16}, many(n)...)
			for _, other := range sayings() {
				other.Node, other.Boot, other.Seq = c.Node, c.Boot, c.Seq
				other.Time = 77
				r := chosen(t, round.Tell, many(n), other)
				tellsLog(t, r, place+1, []int{16}, many(n)...)
				accepted(t, r, round.Done, 16)
				isDone(t, r, place+1, many(n)...)
			}
		}
	}
}

func TestAnotherNodeBootOrSeqIsAnotherCommand(t *testing.T) {
	c := command(18, 5, 6)
	node, boot, seq := c, c, c
	node.Node, boot.Boot, seq.Seq = 17, 6, 5
	turned := c
	turned.Boot, turned.Seq = 6, 5
	for _, other := range []api.Command{node, boot, seq, turned} {
		tellsLog(t, chosen(t, round.Tell, []api.Command{other}, c), 2, []int{16}, other, c)
	}
	all := []api.Command{node, boot, seq, turned}
	tellsLog(t, chosen(t, round.Tell, all, c), 5, []int{16}, node, boot, seq, turned, c)
	tellsLog(t, chosen(t, round.Tell, append(all, c), c), 5, []int{16}, node, boot, seq, turned, c)
}

// The wanted command's place is that in the log which counts, not in another one that was told.
func TestTheWantedCommandInALesserBallotsLog(t *testing.T) {
	c := command(20, 0, 0)
	with := append([]api.Command{c}, many(3)...)
	for _, order := range orders([]told{{ballot(2, 16), with}, {ballot(3, 16), many(2)}}) {
		r := begun(t, 3, ballot(5, 17), c)
		promise(t, r, round.Ask, 16, order[0].ballot, order[0].log...)
		promise(t, r, round.Tell, 17, order[1].ballot, order[1].log...)
		tellsLog(t, r, 3, managers(3), append(many(2), c)...)
	}
	r := begun(t, 3, ballot(5, 17), c)
	promise(t, r, round.Ask, 16, api.Ballot{}, with...)
	promise(t, r, round.Tell, 17, ballot(-1, 16), with...)
	tellsLog(t, r, 1, managers(3), c)
}

func TestAFullLog(t *testing.T) {
	c := command(23, 9, 9)
	for _, n := range []int{254, 255} {
		r := chosen(t, round.Tell, many(n), c)
		tellsLog(t, r, n+1, []int{16}, append(many(n), c)...)
		accepted(t, r, round.Done, 16)
		isDone(t, r, n+1, append(many(n), c)...)
	}
	tellsLog(t, chosen(t, round.Tell, many(256)), 0, []int{16}, many(256)...)
	for place := range 256 {
		r := chosen(t, round.Tell, many(256), many(256)[place])
		if r.Place() != place+1 || len(r.Log()) != 256 {
			t.Fatalf("Place() = %d, with %d commands, want %d", r.Place(), len(r.Log()), place+1)
		}
	}
	isFull(t, chosen(t, round.Full, many(256), c))
}

func TestAFullRoundStays(t *testing.T) {
	for n := 1; n <= 8; n++ {
		r := begun(t, n, ballot(5, 17), command(23, 9, 9))
		for i, node := range managers(majority[n]) {
			asks(t, r, managers(n)[i:]...)
			r.Promise(node, ballot(1, 16), many(256))
		}
		isFull(t, r)
		for _, node := range slices.Concat(managers(8), notNodes) {
			promise(t, r, round.Full, node, ballot(99, 16), many(1)...)
			promise(t, r, round.Full, node, api.Ballot{})
			accepted(t, r, round.Full, node)
		}
		isFull(t, r)
	}
}

// Whether there is room is asked of the log that counts alone, when enough have promised.
func TestAnotherLogThatIsFull(t *testing.T) {
	c := command(23, 9, 9)
	r := begun(t, 3, ballot(5, 17), c)
	promise(t, r, round.Ask, 16, ballot(2, 16), many(256)...)
	asks(t, r, 17, 18)
	promise(t, r, round.Tell, 17, ballot(3, 16), many(255)...)
	tellsLog(t, r, 256, managers(3), append(many(255), c)...)
	r = begun(t, 3, ballot(5, 17), c)
	promise(t, r, round.Ask, 18, ballot(2, 16), many(2)...)
	promise(t, r, round.Full, 16, ballot(2, 17), many(256)...)
	isFull(t, r)
	r = begun(t, 3, ballot(5, 17), c)
	promise(t, r, round.Ask, 16, api.Ballot{}, many(256)...)
	promise(t, r, round.Tell, 18, api.Ballot{}, many(256)...)
	tellsLog(t, r, 1, managers(3), c)
}

func TestANilRound(t *testing.T) {
	var r *round.Round
	for _, node := range slices.Concat(managers(8), notNodes) {
		promise(t, r, 0, node, api.Ballot{})
		promise(t, r, 0, node, ballot(1, 16), many(3)...)
		promise(t, r, 0, node, ballot(1, 16), many(257)...)
		accepted(t, r, 0, node)
	}
	tells(t, r, view{})
	if r.Missing() != nil || r.Log() != nil {
		t.Errorf("%v, %v", r.Missing(), r.Log())
	}
}

// ledger is all answers that counted, in the order in which they came; what the round must tell is worked out anew each time.
type ledger struct {
	n        int
	ballot   api.Ballot
	want     []api.Command
	promised map[int]int
	promises []told
	accepted map[int]int
}

func (l *ledger) isOne(node int) bool {
	return slices.Contains(managers(l.n), node)
}

func (l *ledger) promise(node int, p told) {
	if l.view().stage == 1 && l.isOne(node) && l.promised[node] == 0 && vote.CheckLog(p.log) == nil {
		l.promised[node] = 1
		l.promises = append(l.promises, p)
	}
}

func (l *ledger) accept(node int) {
	if l.view().stage == 2 && l.isOne(node) {
		l.accepted[node] = 1
	}
}

// best is the log of the promise that counts: each one is held against all others.
func (l *ledger) best() []api.Command {
	for i, p := range l.promises {
		wins := p.ballot.N > 0 || p.ballot.N == 0 && p.ballot.Node > 0
		for j, other := range l.promises {
			greater := other.ballot.N > p.ballot.N || other.ballot.N == p.ballot.N && other.ballot.Node > p.ballot.Node
			if greater || other.ballot == p.ballot && j < i {
				wins = false
			}
		}
		if wins {
			return p.log
		}
	}
	return nil
}

func (l *ledger) silent(heard map[int]int) []int {
	return slices.DeleteFunc(managers(l.n), func(node int) bool { return heard[node] == 1 })
}

func (l *ledger) view() view {
	if len(l.promised) < majority[l.n] {
		return view{stage: 1, ballot: l.ballot, missing: l.silent(l.promised)}
	}
	log, place := slices.Clone(l.best()), 0
	for _, want := range l.want {
		for i, c := range log {
			if fmt.Sprint(c.Node, c.Boot, c.Seq) == fmt.Sprint(want.Node, want.Boot, want.Seq) {
				place = i + 1
			}
		}
		if place == 0 {
			log = append(log, want)
			place = len(log)
		}
	}
	if len(log) > 256 {
		return view{stage: 4, ballot: l.ballot}
	}
	if len(l.accepted) < majority[l.n] {
		return view{2, place, l.ballot, l.silent(l.accepted), log}
	}
	return view{3, place, l.ballot, nil, log}
}

// anyTold is what some promise may say, be it in form or not.
func anyTold(random *rand.Rand, long bool) told {
	n := random.IntN(6)
	if long {
		n = 255 + random.IntN(3)
	}
	log := many(n)
	if n > 0 && n < 10 {
		random.Shuffle(n, func(i, j int) { log[i], log[j] = log[j], log[i] })
		if random.IntN(8) == 0 {
			log[random.IntN(n)].Time = -1
		}
		if random.IntN(8) == 0 {
			log = append(log, log[random.IntN(n)])
		}
	}
	return told{ballot(random.IntN(7)-2, 15+random.IntN(4)), log}
}

func TestAnyOrderOfCalls(t *testing.T) {
	stages := map[int]int{}
	for seed := range uint64(2000) {
		random := generator(100 + seed)
		// In one of some runs half of the logs are about as long as they may be.
		n, long := 1+random.IntN(8), map[bool]int{true: 1}[seed%8 == 0]
		l := &ledger{n: n, ballot: ballot(random.IntN(9), 16+random.IntN(n)), promised: map[int]int{}, accepted: map[int]int{}}
		// It is wanted anew, or is there in some of the logs; or none is wanted.
		l.want = [][]api.Command{{command(23, 0, 5)}, many(4)[2:3], many(5)[4:], nil}[random.IntN(4)]
		r := begun(t, n, l.ballot, l.want...)
		for range 4 * n {
			node := 15 + random.IntN(n+2)
			if random.IntN(3) > 0 {
				p := anyTold(random, random.IntN(1+long) > 0)
				l.promise(node, p)
				promise(t, r, l.view().stage, node, p.ballot, p.log...)
			} else {
				l.accept(node)
				accepted(t, r, l.view().stage, node)
			}
			tells(t, r, l.view())
		}
		stages[r.Stage()]++
	}
	for stage := 1; stage <= 4; stage++ {
		if stages[stage] < 10 {
			t.Errorf("stage %d was the last one %d times", stage, stages[stage])
		}
	}
}

// P15.2

// bid is a round with the command that it wants; done is its log, if it came to Done.
type bid struct {
	*round.Round
	want []api.Command
	done []api.Command
}

// letter is a question of a bid to a manager, or (if back) its answer.
type letter struct {
	bid    *bid
	node   int
	back   bool
	accept bool
	told
}

// quorum is voters, and the bids that ask them.
type quorum struct {
	t      *testing.T
	random *rand.Rand
	stores []*stable.Store
	voters []*vote.Voter
	bids   []*bid
	used   map[api.Ballot]int
	mail   []letter
	full   int
}

func newQuorum(t *testing.T, seed uint64, n int) *quorum {
	t.Helper()
	q := &quorum{t: t, random: generator(seed), used: map[api.Ballot]int{}}
	for i := range n {
		s, err := stable.New(1 << 20)
		if err != nil {
			t.Fatal(err)
		}
		q.stores, q.voters = append(q.stores, s), append(q.voters, nil)
		q.open(i)
	}
	return q
}

// open opens a manager's voter, as it does behind a crash.
func (q *quorum) open(i int) {
	q.t.Helper()
	v, err := vote.Open(q.stores[i], 16+i)
	if err != nil {
		q.t.Fatal(err)
	}
	q.voters[i] = v
}

// begin begins a bid with a ballot that no other one has; it may be below theirs.
func (q *quorum) begin() *bid {
	q.t.Helper()
	b := ballot(1+len(q.bids)/2+q.random.IntN(3), 16+q.random.IntN(len(q.voters)))
	for q.used[b] > 0 {
		b.N++
	}
	return q.beginWith(b, command(b.Node, 0, len(q.bids)))
}

func (q *quorum) beginWith(b api.Ballot, want ...api.Command) *bid {
	q.t.Helper()
	q.used[b] = 1
	if q.random.IntN(10) == 0 {
		want = nil
	}
	one := &bid{Round: begun(q.t, len(q.voters), b, want...), want: want}
	q.bids = append(q.bids, one)
	q.ask(one)
	return one
}

// ask asks all that haven't answered a bid.
func (q *quorum) ask(b *bid) {
	for _, node := range b.Missing() {
		q.mail = append(q.mail, letter{bid: b, node: node, accept: b.Stage() == round.Tell, told: told{b.Ballot(), b.Log()}})
	}
}

func (q *quorum) deliver(l letter) {
	q.t.Helper()
	before := l.bid.Stage()
	switch {
	case !l.back && !l.accept:
		if accepted, log, err := q.voters[l.node-16].Prepare(l.ballot); err == nil {
			q.mail = append(q.mail, letter{l.bid, l.node, true, false, told{accepted, log}})
		}
	case !l.back:
		if q.voters[l.node-16].Accept(l.ballot, l.log) == nil {
			q.mail = append(q.mail, letter{bid: l.bid, node: l.node, back: true, accept: true})
		}
	case !l.accept:
		l.bid.Promise(l.node, l.ballot, l.log)
	default:
		l.bid.Accepted(l.node)
	}
	if l.bid.Stage() == before {
		return
	}
	switch l.bid.Stage() {
	case round.Tell:
		q.ask(l.bid)
	case round.Done:
		q.finish(l.bid)
	case round.Full:
		q.full++
	}
}

// finish wants that of the log that is done now and of each other one the one begins with the other.
func (q *quorum) finish(b *bid) {
	q.t.Helper()
	log := b.Log()
	if len(b.want) > 0 && !alike(log[b.Place()-1:b.Place()], b.want) || len(b.want) == 0 && b.Place() != 0 {
		q.t.Fatalf("%s at %d isn't %s", short(log), b.Place(), short(b.want))
	}
	b.done = log
	for _, other := range q.bids {
		if other.Stage() != round.Done {
			continue
		}
		least := min(len(log), len(other.done))
		if !alike(log[:least], other.done[:least]) {
			q.t.Fatalf("%v came to %s, %v to %s", b.Ballot(), short(log), other.Ballot(), short(other.done))
		}
	}
}

// step does one thing: something begins, is asked again, is delivered, doubled or lost, or a manager crashes.
func (q *quorum) step(losses int) {
	q.t.Helper()
	switch pick := q.random.IntN(100); {
	case pick < 4:
		q.begin()
	case pick < 8 && len(q.bids) > 0:
		q.ask(q.bids[q.random.IntN(len(q.bids))])
	case pick < 10:
		i := q.random.IntN(len(q.voters))
		q.stores[i].Crash()
		q.open(i)
	case len(q.mail) > 0:
		at := q.random.IntN(len(q.mail))
		l := q.mail[at]
		if q.random.IntN(10) > 0 {
			q.mail = slices.Delete(q.mail, at, at+1)
		}
		if q.random.IntN(100) >= losses {
			q.deliver(l)
		}
	}
}

// count is how many bids are done, and the length of the longest of their logs.
func (q *quorum) count() (int, int) {
	done, longest := 0, 0
	for _, b := range q.bids {
		if b.Stage() == round.Done {
			done++
			longest = max(longest, len(b.done))
		}
	}
	return done, longest
}

func TestOneLog(t *testing.T) {
	for n := 1; n <= 8; n++ {
		done, longest := 0, 0
		for seed := range uint64(60) {
			q := newQuorum(t, seed*10+uint64(n), n)
			for range 600 {
				q.step(int(seed%4) * 10)
			}
			count, length := q.count()
			done, longest = done+count, max(longest, length)
		}
		if done < 100 || longest < 4 {
			t.Errorf("%d managers: %d rounds were done, the longest log has %d", n, done, longest)
		}
	}
}

// Where nothing is lost and no ballot is in another one's way, each round comes to Done.
func TestCalmRounds(t *testing.T) {
	for n := 1; n <= 8; n++ {
		q := newQuorum(t, uint64(n), n)
		for i := range 60 {
			b := q.beginWith(ballot(1+i, 16+i%n), command(16+i%n, 0, i))
			for len(q.mail) > 0 {
				l := q.mail[0]
				q.mail = q.mail[1:]
				q.deliver(l)
			}
			if b.Stage() != round.Done {
				t.Fatalf("%d managers: round %d is at %d", n, i, b.Stage())
			}
		}
		if done, longest := q.count(); done != 60 || longest < 40 {
			t.Errorf("%d managers: %d rounds were done, the longest log has %d", n, done, longest)
		}
	}
}

// A log that one manager alone accepted is taken up by a round that hears of it, and lost by one that doesn't.
func TestWhatOneManagerAccepted(t *testing.T) {
	for _, hears := range []bool{true, false} {
		q := newQuorum(t, 1, 3)
		lost, kept := command(16, 0, 1), command(17, 0, 2)
		first := begun(t, 3, ballot(1, 16), lost)
		for i := range 2 {
			b, log, err := q.voters[i].Prepare(first.Ballot())
			if err != nil {
				t.Fatal(err)
			}
			first.Promise(16+i, b, log)
		}
		if err := q.voters[0].Accept(first.Ballot(), first.Log()); err != nil || first.Accepted(16) != round.Tell {
			t.Fatal(err)
		}
		second := begun(t, 3, ballot(2, 17), kept)
		asked, want := []int{1, 2}, []api.Command{kept}
		if hears {
			asked, want = []int{2, 0}, []api.Command{lost, kept}
		}
		for _, i := range asked {
			b, log, err := q.voters[i].Prepare(second.Ballot())
			if err != nil {
				t.Fatal(err)
			}
			second.Promise(16+i, b, log)
		}
		for _, i := range asked {
			if err := q.voters[i].Accept(second.Ballot(), second.Log()); err != nil {
				t.Fatal(err)
			}
			second.Accepted(16 + i)
		}
		tells(t, second, view{stage: round.Done, place: len(want), ballot: ballot(2, 17), log: want})
		if err := q.voters[asked[0]].Accept(first.Ballot(), first.Log()); !errors.Is(err, api.ErrBallot) {
			t.Fatal(err)
		}
	}
}

// P15.3

// spare is a log with room behind it and behind each list of ends, in which there is more.
func spare(n int) []api.Command {
	room := many(n + 2)
	for i := range room {
		room[i].Service.Ends = append(room[i].Service.Ends, ends(3)...)[:len(room[i].Service.Ends)]
	}
	return room[:n]
}

// whole is a log with all that is in the room behind it.
func whole(log []api.Command) string {
	all := slices.Clone(log[:cap(log)])
	for i := range all {
		all[i].Service.Ends = all[i].Service.Ends[:cap(all[i].Service.Ends)]
	}
	return text(all)
}

// spoil changes all of a log, with its spare room.
func spoil(log []api.Command) {
	log = log[:cap(log)]
	for i, c := range log {
		all := c.Service.Ends[:cap(c.Service.Ends)]
		for j := range all {
			all[j] = api.End{Dip: 9, Port: 9, Weight: 9}
		}
		log[i] = api.Command{Node: 9, Kind: 9, Service: c.Service, Up: true}
	}
}

func TestWhatIsHandedInStaysAsItIs(t *testing.T) {
	for n := range 10 {
		log, want := spare(n), spare(8)[7:8]
		before, wantBefore := whole(log), whole(want)
		r := begun(t, 3, ballot(5, 17), want...)
		for _, node := range []int{15, 16, 16, 17, 18} {
			r.Promise(node, ballot(2, 16), log)
			r.Log()
		}
		for _, node := range []int{17, 18, 16} {
			r.Accepted(node)
			spoil(r.Log())
		}
		r.Promise(18, ballot(3, 16), log)
		if whole(log) != before || whole(want) != wantBefore {
			t.Fatalf("%s, want %s; %s, want %s", whole(log), before, whole(want), wantBefore)
		}
	}
	two := spare(2)
	before := whole(two)
	notBegun(t, api.ErrForm, 3, two...)
	notBegun(t, api.ErrRange, 0, two[:1]...)
	if whole(two) != before {
		t.Fatalf("%s, want %s", whole(two), before)
	}
}

func TestWhatIsHandedInIsNotKept(t *testing.T) {
	for n := range 10 {
		for seq := range 7 {
			want := []api.Command{command(20, 0, seq)}
			r := begun(t, 3, ballot(5, 17), want...)
			spoil(want)
			less, log := spare(n+1), spare(n)
			promise(t, r, round.Ask, 16, ballot(2, 16), less...)
			spoil(less)
			promise(t, r, round.Tell, 18, ballot(3, 16), log...)
			spoil(log)
			all := append(many(n), command(20, 0, seq))
			tellsLog(t, r, n+1, managers(3), all...)
			accepted(t, r, round.Tell, 16)
			accepted(t, r, round.Done, 17)
			isDone(t, r, n+1, all...)
		}
	}
}

// A log that was told before the one that counts must outlive the call, too.
func TestAnEarlierLogIsNotKept(t *testing.T) {
	for n := range 10 {
		r := begun(t, 5, ballot(5, 17))
		for i, b := range []api.Ballot{ballot(2, 16), ballot(4, 16), ballot(3, 16)} {
			log := spare(n + i)
			r.Promise(16+i, b, log)
			spoil(log)
		}
		tellsLog(t, r, 0, managers(5), many(n+1)...)
	}
}

func TestAnswersAreNewMemory(t *testing.T) {
	for n := range 10 {
		r := begun(t, 3, ballot(5, 17), command(20, 0, 7))
		all := append(many(n), command(20, 0, 7))
		one, two := r.Missing(), r.Missing()
		clear(one[:cap(one)])
		if !slices.Equal(two, managers(3)) {
			t.Fatalf("answers of Missing share memory: %v", two)
		}
		asks(t, r, 16, 17, 18)
		r.Promise(16, ballot(1, 16), many(n))
		r.Promise(17, api.Ballot{}, nil)
		for range 2 {
			one, two := r.Missing(), r.Missing()
			clear(one[:cap(one)])
			if !slices.Equal(two, managers(3)) {
				t.Fatalf("answers of Missing share memory: %v", two)
			}
			first, second := r.Log(), r.Log()
			spoil(first)
			if !alike(second, all) {
				t.Fatalf("answers of Log share memory: %s", short(second))
			}
			tellsLog(t, r, n+1, managers(3), all...)
		}
		r.Accepted(16)
		r.Accepted(18)
		spoil(r.Log())
		isDone(t, r, n+1, all...)
	}
}

// No two lists of ends of one answer share anything, spare room included, even if those handed in do.
func TestNoTwoListsOfOneAnswerShareAny(t *testing.T) {
	shared := ends(8)
	var log []api.Command
	for seq := range 4 {
		c := sayings()[0]
		c.Seq, c.Service.Ends = seq, shared[seq%2:3+seq%2]
		log = append(log, c)
	}
	r := begun(t, 1, ballot(5, 17), log[3])
	r.Promise(16, ballot(1, 16), log[:3])
	for i := range log {
		answer := r.Log()
		spoil(answer[i : i+1 : i+1])
		if !alike(slices.Delete(answer, i, i+1), slices.Delete(slices.Clone(log), i, i+1)) {
			t.Fatalf("%s", short(answer))
		}
	}
	tellsLog(t, r, 4, []int{16}, log...)
}

// A log that was told may be handed in again, to this round or another one.
func TestAnswersMayBeHandedInAgain(t *testing.T) {
	r := begun(t, 1, ballot(5, 17))
	promise(t, r, round.Tell, 16, ballot(1, 16), many(8)...)
	for seq := range 5 {
		log := r.Log()
		next := begun(t, 1, ballot(5, 17), command(23, 1, seq))
		promise(t, next, round.Tell, 16, ballot(1, 16), log...)
		spoil(log)
		r = next
	}
	want := many(8)
	for seq := range 5 {
		want = append(want, command(23, 1, seq))
	}
	tellsLog(t, r, 13, []int{16}, want...)
}
