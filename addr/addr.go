// Package addr is layer 1: addresses, flows, nodes. See shared/doc/01-addr.md.
package addr

import (
	"cmp"
	"strconv"
	"strings"

	"towpath/api"
)

const (
	// nodeBase is the address to which a node's number is added.
	nodeBase api.Addr = 10 << 24

	maxPort = 65535

	// longest bounds what Parse takes apart, however long the text is.
	longest = len("255.255.255.255")
)

// Text is an address's text.
func Text(a api.Addr) string {
	var parts []string
	for _, b := range split(a) {
		parts = append(parts, strconv.Itoa(int(b)))
	}
	return strings.Join(parts, ".")
}

// Parse is the address of a text.
func Parse(s string) (api.Addr, error) {
	if len(s) > longest {
		return 0, api.ErrAddr
	}
	var bytes [4]byte
	parts := strings.Split(s, ".")
	if len(parts) != len(bytes) {
		return 0, api.ErrAddr
	}
	for i, part := range parts {
		n, err := strconv.ParseUint(part, 10, 8)
		// ParseUint takes noughts ahead, which no text has.
		if err != nil || strconv.FormatUint(n, 10) != part {
			return 0, api.ErrAddr
		}
		bytes[i] = byte(n)
	}
	return join(bytes), nil
}

// Node is the node of a kind and a place.
func Node(kind, place int) (int, error) {
	if place < 0 || place >= places(kind) {
		return 0, api.ErrNode
	}
	return kind + place, nil
}

// Kind is a node's kind and place.
func Kind(node int) (int, int, bool) {
	for _, kind := range [...]int{api.Router, api.Managers, api.Muxes, api.Hosts} {
		if node >= kind && node-kind < places(kind) {
			return kind, node - kind, true
		}
	}
	return 0, 0, false
}

// Of is a node's address.
func Of(node int) (api.Addr, error) {
	if _, _, ok := Kind(node); !ok {
		return 0, api.ErrNode
	}
	return nodeBase + api.Addr(node), nil
}

// Who is the node of an address.
func Who(a api.Addr) (int, bool) {
	node := int(split(a)[3])
	if back, err := Of(node); err != nil || back != a {
		return 0, false
	}
	return node, true
}

// Dip is a machine's address.
func Dip(host, vm int) (api.Addr, error) {
	if host < 0 || host >= api.MaxKind || vm < 0 || vm >= api.MaxVms {
		return 0, api.ErrNode
	}
	return join([4]byte{10, 1, byte(host), byte(vm)}), nil
}

// Home is a machine's host and place.
func Home(a api.Addr) (int, int, bool) {
	bytes := split(a)
	host, vm := int(bytes[2]), int(bytes[3])
	if back, err := Dip(host, vm); err != nil || back != a {
		return 0, 0, false
	}
	return api.Hosts + host, vm, true
}

// IsVip tells whether an address is a vip.
func IsVip(a api.Addr) bool {
	first := split(a)[0]
	return first >= 1 && first <= 223 && first != 10 && first != 127
}

// Check tells whether a flow is in form.
func Check(f api.Flow) error {
	if f.Proto != api.TCP && f.Proto != api.UDP || !isPort(f.SrcPort) || !isPort(f.DstPort) {
		return api.ErrForm
	}
	return nil
}

// Reverse is a flow in the other direction.
func Reverse(f api.Flow) api.Flow {
	return api.Flow{Proto: f.Proto, Src: f.Dst, SrcPort: f.DstPort, Dst: f.Src, DstPort: f.SrcPort}
}

// Hash is a flow's number.
func Hash(seed uint64, f api.Flow) uint64 {
	h := seed ^ 0xcbf29ce484222325
	add := func(row ...byte) {
		for _, b := range row {
			h = (h ^ uint64(b)) * 0x100000001b3
		}
	}
	src, dst := split(f.Src), split(f.Dst)
	add(byte(f.Proto))
	add(src[:]...)
	add(dst[:]...)
	add(byte(f.SrcPort>>8), byte(f.SrcPort), byte(f.DstPort>>8), byte(f.DstPort))
	h ^= h >> 32
	h *= 0x9e3779b97f4a7c15
	return h ^ h>>29
}

// Less orders flows.
func Less(a, b api.Flow) bool {
	return cmp.Or(
		cmp.Compare(a.Proto, b.Proto),
		cmp.Compare(a.Src, b.Src),
		cmp.Compare(a.SrcPort, b.SrcPort),
		cmp.Compare(a.Dst, b.Dst),
		cmp.Compare(a.DstPort, b.DstPort),
	) < 0
}

// places is how many nodes of a kind there may be.
func places(kind int) int {
	switch kind {
	case api.Router:
		return 1
	case api.Managers, api.Muxes, api.Hosts:
		return api.MaxKind
	}
	return 0
}

func isPort(port int) bool {
	return port >= 0 && port <= maxPort
}

// split is an address's bytes, the highest first.
func split(a api.Addr) [4]byte {
	return [4]byte{byte(a >> 24), byte(a >> 16), byte(a >> 8), byte(a)}
}

// join is the address of bytes.
func join(b [4]byte) api.Addr {
	return api.Addr(b[0])<<24 | api.Addr(b[1])<<16 | api.Addr(b[2])<<8 | api.Addr(b[3])
}
