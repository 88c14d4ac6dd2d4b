package dht

import (
	"slices"

	"towpath/api"
	"towpath/codec"
)

// none stands for a mux where there is none: it is the router's number.
const none = 0

// Where a message's numbers stand behind its task and its flow.
const (
	dipAt   = 0
	epochAt = 1
	lastAt  = 2
)

// word is a message, laid open. Of MBind it has old, of MCopy fresh.
type word struct {
	task  int
	flow  api.Flow
	dip   api.Addr
	epoch int
	old   api.Addr
	fresh bool
}

// read is what a message says; false, if its Nums aren't as its kind asks.
func read(m api.Msg) (word, bool) {
	if len(m.Nums) == 0 || len(m.Nums) != length(m.Kind) {
		return word{}, false
	}
	f, rest, err := codec.TakeFlow(m.Nums[1:])
	if err != nil || !isAddr(rest[dipAt]) {
		return word{}, false
	}
	w := word{task: m.Nums[0], flow: f, dip: api.Addr(rest[dipAt]), epoch: rest[epochAt]}
	switch m.Kind {
	case api.MBind:
		w.old = api.Addr(rest[lastAt])
		return w, isAddr(rest[lastAt])
	case api.MCopy:
		w.fresh = rest[lastAt] == bit(true)
		return w, rest[lastAt] == bit(w.fresh)
	}
	return w, true
}

// length is how many Nums a message of this kind has.
func length(kind int) int {
	switch kind {
	case api.MBind, api.MCopy:
		return 9
	case api.MCopied:
		return 8
	}
	return 0
}

// post posts a message of a task and a flow, with these numbers behind.
func (d *Dht) post(to, kind, task int, f api.Flow, behind ...int) {
	nums := slices.Concat([]int{task}, codec.Flow(f), behind)
	d.posts = append(d.posts, api.Post{To: to, Ctl: true, Msg: codec.Make(kind, nums...)})
}

// isAddr tells whether a number is an address's: any other one would be made another one.
func isAddr(n int) bool {
	return int(api.Addr(n)) == n
}

func bit(is bool) int {
	if is {
		return 1
	}
	return 0
}
