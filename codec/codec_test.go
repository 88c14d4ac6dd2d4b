package codec_test

import (
	"bytes"
	"encoding/binary"
	"encoding/hex"
	"errors"
	"hash/crc32"
	"math"
	"math/rand/v2"
	"slices"
	"strings"
	"testing"

	"towpath/addr"
	"towpath/api"
	"towpath/codec"
)

// byHand are messages and their frames, worked out apart from this program.
var byHand = []struct {
	m    api.Msg
	text string
}{
	{api.Msg{Kind: api.MKeep, Nums: []int{7}}, "545001 0d 01 0000000000000007 00000000 591e4cb9"},
	{api.Msg{}, "54500100 00 00000000 3ae6fca6"},
	{
		api.Msg{Kind: 255, Nums: []int{-1, math.MinInt64, math.MaxInt64}, Data: []byte("hello")},
		"545001 ff 03 ffffffffffffffff 8000000000000000 7fffffffffffffff 00000005 68656c6c6f ebd81057",
	},
	{
		api.Msg{Kind: api.MRedirect, Nums: []int{6, 0x08080808, 5000, 0x01010101, 80}},
		"545001 13 05 0000000000000006 0000000008080808 0000000000001388 0000000001010101 0000000000000050 00000000 f27c4e4a",
	},
	{
		api.Msg{Kind: api.MConfig, Nums: []int{256, -256}, Data: []byte{0, 255}},
		"545001 06 02 0000000000000100 ffffffffffffff00 00000002 00ff 31ade5a9",
	},
}

var edgeNumbers = []int{
	0, 1, -1, 127, 128, 255, 256, -256, 65535, 65536, math.MaxInt32, math.MinInt32, math.MaxUint32, math.MaxUint32 + 1,
	api.MaxTime, 0x0102030405060708, math.MaxInt64, math.MinInt64,
}

func row(t *testing.T, text string) []byte {
	t.Helper()
	b, err := hex.DecodeString(strings.ReplaceAll(text, " ", ""))
	if err != nil {
		t.Fatal(err)
	}
	return b
}

// checked are bytes with the check of all of them behind.
func checked(b []byte) []byte {
	return binary.BigEndian.AppendUint32(slices.Clone(b), crc32.ChecksumIEEE(b))
}

// told is what the chapter says of a message's frame, whether the message is in form or not.
func told(m api.Msg) []byte {
	b := []byte{0x54, 0x50, 1, byte(m.Kind), byte(len(m.Nums))}
	for _, n := range m.Nums {
		b = binary.BigEndian.AppendUint64(b, uint64(n))
	}
	b = binary.BigEndian.AppendUint32(b, uint32(len(m.Data)))
	return checked(append(b, m.Data...))
}

func copyOf(m api.Msg) api.Msg {
	return api.Msg{Kind: m.Kind, Nums: slices.Clone(m.Nums), Data: slices.Clone(m.Data)}
}

// alike holds two messages against each other without this program.
func alike(a, b api.Msg) bool {
	return a.Kind == b.Kind && slices.Equal(a.Nums, b.Nums) && bytes.Equal(a.Data, b.Data)
}

func randomMessage(r *rand.Rand) api.Msg {
	m := api.Msg{Kind: r.IntN(256)}
	for range r.IntN(api.MaxNums + 1) {
		m.Nums = append(m.Nums, int(r.Uint64())>>r.IntN(64))
	}
	for range r.IntN(40) {
		m.Data = append(m.Data, byte(r.Uint32()))
	}
	return m
}

// messages are in form, with every kind, count of numbers, and data of many sizes.
func messages() []api.Msg {
	var list []api.Msg
	for _, c := range byHand {
		list = append(list, c.m)
	}
	for kind := range 256 {
		list = append(list, api.Msg{Kind: kind}, api.Msg{Kind: kind, Nums: []int{kind}})
	}
	for count := range api.MaxNums + 1 {
		m := api.Msg{Kind: count}
		for i := range count {
			m.Nums = append(m.Nums, edgeNumbers[(count+i)%len(edgeNumbers)])
		}
		list = append(list, m)
	}
	for _, n := range edgeNumbers {
		list = append(list, api.Msg{Kind: 1, Nums: []int{n}}, api.Msg{Kind: 2, Nums: []int{1, n, 2}, Data: []byte{3}})
	}
	for _, size := range []int{1, 2, 3, 4, 255, 256, 257, api.MaxBytes - 1, api.MaxBytes} {
		list = append(list, api.Msg{Kind: 3, Nums: []int{size}, Data: sized(size)})
	}
	return append(list, api.Msg{Kind: 255, Nums: make([]int, api.MaxNums), Data: sized(api.MaxBytes)})
}

func sized(size int) []byte {
	data := make([]byte, size)
	for i := range data {
		data[i] = byte(i%251 + 1)
	}
	return data
}

// notInForm are messages that have no frame.
func notInForm() []api.Msg {
	var list []api.Msg
	for _, kind := range []int{-1, 256, 257, 511, 512, 1 << 32, -256, math.MinInt, math.MaxInt} {
		list = append(list, api.Msg{Kind: kind}, api.Msg{Kind: kind, Nums: []int{1}, Data: []byte{2}})
	}
	for _, count := range []int{41, 42, 255, 256, 257, 296, 1 << 16} {
		list = append(list, api.Msg{Kind: 1, Nums: make([]int, count)}, api.Msg{Nums: make([]int, count), Data: []byte{1}})
	}
	for _, size := range []int{api.MaxBytes + 1, api.MaxBytes + 2, 2 * api.MaxBytes, 1 << 24} {
		list = append(list, api.Msg{Kind: 1, Data: make([]byte, size)}, api.Msg{Nums: []int{1}, Data: make([]byte, size)})
	}
	return list
}

func taken(t *testing.T, b []byte, want api.Msg) {
	t.Helper()
	m, err := codec.Parse(b)
	if !alike(m, want) || err != nil {
		t.Errorf("Parse(%.60x) = %.60v, %v, want %.60v", b, m, err, want)
	}
}

func notTaken(t *testing.T, what string, b []byte) {
	t.Helper()
	m, err := codec.Parse(b)
	if m.Kind != 0 || m.Nums != nil || m.Data != nil || !errors.Is(err, api.ErrMessage) {
		t.Errorf("Parse(%s: %.60x) = %.60v, %v, want nothing and %v", what, b, m, err, api.ErrMessage)
	}
}

// P6.1: Frame and Parse.

func TestByHand(t *testing.T) {
	for _, c := range byHand {
		want := row(t, c.text)
		if b, err := codec.Frame(c.m); !bytes.Equal(b, want) || err != nil {
			t.Errorf("Frame(%v) = %x, %v, want %x", c.m, b, err, want)
		}
		taken(t, want, c.m)
	}
	if len(row(t, byHand[0].text)) != 21 {
		t.Error("the chapter's example has 21 bytes")
	}
}

func TestFrameAsTold(t *testing.T) {
	for _, m := range messages() {
		if b, err := codec.Frame(m); !bytes.Equal(b, told(m)) || err != nil {
			t.Errorf("Frame(%.60v) = %.60x, %v, want %.60x", m, b, err, told(m))
		}
	}
}

func TestParseAsTold(t *testing.T) {
	for _, m := range messages() {
		taken(t, told(m), m)
	}
}

func TestFrameRefusesWhatIsntInForm(t *testing.T) {
	for _, m := range notInForm() {
		if b, err := codec.Frame(m); b != nil || !errors.Is(err, api.ErrForm) {
			t.Errorf("Frame(kind %d, %d nums, %d bytes) = %.60x, %v, want nothing and %v", m.Kind, len(m.Nums), len(m.Data), b, err, api.ErrForm)
		}
	}
}

func TestNilAndEmptyAreTheSame(t *testing.T) {
	b, err := codec.Frame(api.Msg{Kind: 9, Nums: []int{}, Data: []byte{}})
	if !bytes.Equal(b, told(api.Msg{Kind: 9})) || err != nil {
		t.Errorf("Frame with empty lists = %x, %v", b, err)
	}
	notTaken(t, "nil", nil)
	notTaken(t, "no bytes", []byte{})
}

// What a message with too much would be framed as is no message's frame.
func TestParseRefusesTooMuch(t *testing.T) {
	for count := api.MaxNums + 1; count < 256; count++ {
		notTaken(t, "too many numbers", told(api.Msg{Kind: 1, Nums: make([]int, count)}))
		notTaken(t, "too many numbers and data", told(api.Msg{Kind: 1, Nums: make([]int, count), Data: []byte{1}}))
	}
	for _, size := range []int{api.MaxBytes + 1, api.MaxBytes + 2, 2 * api.MaxBytes, 1 << 24} {
		notTaken(t, "too many bytes", told(api.Msg{Kind: 1, Data: make([]byte, size)}))
		notTaken(t, "too many bytes and a number", told(api.Msg{Nums: []int{1}, Data: make([]byte, size)}))
	}
}

func TestParseRefusesAnotherStart(t *testing.T) {
	b := told(api.Msg{Kind: 13, Nums: []int{7}})
	b = b[:len(b)-4]
	for at := range 3 {
		for is := range 256 {
			c := slices.Clone(b)
			c[at] = byte(is)
			if !bytes.Equal(c, b) {
				notTaken(t, "another start", checked(c))
			}
		}
	}
	notTaken(t, "no start", checked(b[3:]))
	notTaken(t, "a byte ahead", checked(append([]byte{0}, b...)))
}

// Where a count isn't what is there, the check alone doesn't make it a frame.
func TestParseRefusesOtherCounts(t *testing.T) {
	b := told(api.Msg{Kind: 13, Nums: []int{1, 2}, Data: bytes.Repeat([]byte{0}, 30)})
	b = b[:len(b)-4]
	for is := range 256 {
		c := slices.Clone(b)
		c[4] = byte(is)
		if is != 2 {
			notTaken(t, "another count of numbers", checked(c))
		}
	}
	for _, size := range []uint32{0, 1, 29, 31, 32, 256 + 30, 1<<16 + 30, 1<<24 + 30, 1 << 16, 1<<16 + 1, 1<<31 - 1, 1 << 31, 1<<31 + 30, math.MaxUint32} {
		c := slices.Clone(b)
		binary.BigEndian.PutUint32(c[21:], size)
		notTaken(t, "another length of the data", checked(c))
	}
	for extra := 1; extra < 40; extra++ {
		notTaken(t, "bytes too many", checked(append(slices.Clone(b), make([]byte, extra)...)))
		notTaken(t, "bytes too few", checked(b[:len(b)-extra]))
	}
}

func TestParseRefusesFewBytes(t *testing.T) {
	whole := []byte{0x54, 0x50, 1, 0, 0, 0, 0, 0, 0}
	for size := range whole {
		notTaken(t, "few bytes", whole[:size])
		notTaken(t, "few bytes and their check", checked(whole[:size]))
	}
	taken(t, checked(whole), api.Msg{})
	for count := 1; count <= 255; count++ {
		head := []byte{0x54, 0x50, 1, 0, byte(count)}
		for size := range 20 {
			notTaken(t, "few bytes for the numbers", checked(append(slices.Clone(head), make([]byte, size%(8*count+4))...)))
		}
	}
}

func TestParseRefusesOtherChecks(t *testing.T) {
	b := told(api.Msg{Kind: 1, Nums: []int{2}, Data: []byte{3}})
	end := b[len(b)-4:]
	right := binary.BigEndian.Uint32(end)
	for _, check := range []uint32{0, math.MaxUint32, ^right, right + 1, right - 1, right<<8 | right>>24, binary.LittleEndian.Uint32(end)} {
		binary.BigEndian.PutUint32(end, check)
		notTaken(t, "another check", b)
	}
	binary.BigEndian.PutUint32(end, right)
	taken(t, b, api.Msg{Kind: 1, Nums: []int{2}, Data: []byte{3}})
}

func TestParseTakesNoRandomBytes(t *testing.T) {
	r := rand.New(rand.NewPCG(6, 1))
	for range 5000 {
		b := make([]byte, r.IntN(100))
		for i := range b {
			b[i] = byte(r.Uint32())
		}
		notTaken(t, "random bytes", b)
		notTaken(t, "random bytes behind a start", append([]byte{0x54, 0x50, 1}, b...))
	}
	notTaken(t, "far too many", make([]byte, 1<<24))
}

// P6.1: Make and Same.

func TestMake(t *testing.T) {
	for _, kind := range []int{0, 13, 255, 256, -1, math.MinInt, math.MaxInt} {
		if m := codec.Make(kind); !alike(m, api.Msg{Kind: kind}) {
			t.Errorf("Make(%d) = %v", kind, m)
		}
		if m := codec.Make(kind, edgeNumbers...); !alike(m, api.Msg{Kind: kind, Nums: edgeNumbers}) {
			t.Errorf("Make(%d, ..) = %v", kind, m)
		}
	}
	if m := codec.Make(1, 2, 3); !alike(m, api.Msg{Kind: 1, Nums: []int{2, 3}}) {
		t.Errorf("Make(1, 2, 3) = %v", m)
	}
	long := make([]int, 1000)
	long[999] = 5
	if m := codec.Make(1, long...); !alike(m, api.Msg{Kind: 1, Nums: long}) {
		t.Errorf("Make with 1000 numbers has %d", len(m.Nums))
	}
}

func TestSame(t *testing.T) {
	list := []api.Msg{
		{}, {Kind: 1}, {Kind: -1}, {Kind: 256}, {Nums: []int{0}}, {Nums: []int{0, 0}}, {Nums: []int{1}}, {Nums: []int{1, 2}}, {Nums: []int{2, 1}},
		{Data: []byte{0}}, {Data: []byte{0, 0}}, {Data: []byte{1}}, {Nums: []int{1}, Data: []byte{1}}, {Kind: 1, Nums: []int{1}, Data: []byte{1}},
		{Kind: 1, Nums: []int{1, 1}, Data: []byte{1}}, {Kind: 1, Nums: []int{1}, Data: []byte{1, 1}}, {Kind: 1, Nums: []int{1}, Data: []byte{2}},
		{Nums: make([]int, 41)}, {Nums: make([]int, 42)}, {Data: make([]byte, api.MaxBytes+1)}, {Data: make([]byte, api.MaxBytes+2)},
	}
	for i, a := range list {
		for j, b := range list {
			if codec.Same(a, copyOf(b)) != (i == j) {
				t.Errorf("Same(%.40v, %.40v) = %v", a, b, i != j)
			}
		}
	}
	empty := api.Msg{Nums: []int{}, Data: []byte{}}
	if !codec.Same(empty, api.Msg{}) || !codec.Same(api.Msg{}, empty) {
		t.Error("nil and empty lists aren't the same")
	}
}

// P6.1: Flow and TakeFlow.

func TestFlow(t *testing.T) {
	for _, c := range []struct {
		f    api.Flow
		want []int
	}{
		{api.Flow{}, []int{0, 0, 0, 0, 0}},
		{api.Flow{Proto: 6, Src: 1, SrcPort: 2, Dst: 3, DstPort: 4}, []int{6, 1, 2, 3, 4}},
		{api.Flow{Proto: 17, Src: math.MaxUint32, SrcPort: 65535, Dst: 1 << 31, DstPort: 1}, []int{17, 1<<32 - 1, 65535, 1 << 31, 1}},
		{api.Flow{Proto: -1, SrcPort: math.MinInt, DstPort: math.MaxInt}, []int{-1, 0, math.MinInt, 0, math.MaxInt}},
	} {
		if got := codec.Flow(c.f); !slices.Equal(got, c.want) {
			t.Errorf("Flow(%v) = %v, want %v", c.f, got, c.want)
		}
	}
}

func flowTaken(t *testing.T, nums []int, want api.Flow, behind []int) {
	t.Helper()
	f, rest, err := codec.TakeFlow(nums)
	if f != want || !slices.Equal(rest, behind) || err != nil {
		t.Errorf("TakeFlow(%v) = %v, %v, %v, want %v, %v", nums, f, rest, err, want, behind)
	}
}

func flowNotTaken(t *testing.T, nums []int) {
	t.Helper()
	f, rest, err := codec.TakeFlow(nums)
	if f != (api.Flow{}) || rest != nil || !errors.Is(err, api.ErrMessage) {
		t.Errorf("TakeFlow(%v) = %v, %v, %v, want nothing and %v", nums, f, rest, err, api.ErrMessage)
	}
}

func TestTakeFlow(t *testing.T) {
	f := api.Flow{Proto: 6, Src: 1, SrcPort: 2, Dst: 3, DstPort: 4}
	flowTaken(t, []int{6, 1, 2, 3, 4}, f, nil)
	flowTaken(t, []int{6, 1, 2, 3, 4, 9}, f, []int{9})
	flowTaken(t, append([]int{6, 1, 2, 3, 4}, edgeNumbers...), f, edgeNumbers)
	flowTaken(t, append([]int{6, 1, 2, 3, 4}, make([]int, 1000)...), f, make([]int, 1000))
	flowTaken(t, []int{17, 0, 0, 0, 0}, api.Flow{Proto: 17}, nil)
	flowTaken(t, []int{17, 1<<32 - 1, 65535, 1<<32 - 1, 65535, -1}, api.Flow{Proto: 17, Src: math.MaxUint32, SrcPort: 65535, Dst: math.MaxUint32, DstPort: 65535}, []int{-1})
}

func TestTakeFlowRefusesFewNumbers(t *testing.T) {
	flowNotTaken(t, nil)
	for count := range 5 {
		flowNotTaken(t, []int{6, 1, 2, 3, 4}[:count])
		flowNotTaken(t, make([]int, count))
	}
}

// Each of the five numbers is held against what it may be.
func TestTakeFlowRefusesNumbers(t *testing.T) {
	isProto := func(n int) bool { return n == 6 || n == 17 }
	isPort := func(n int) bool { return n >= 0 && n <= 65535 }
	isAddr := func(n int) bool { return n >= 0 && n <= 1<<32-1 }
	may := []func(n int) bool{isProto, isAddr, isPort, isAddr, isPort}
	tried := append([]int{
		4, 5, 6, 7, 16, 17, 18, 262, 273, 65537, -65535, -65536, 1<<32 + 6, 1<<32 + 17, 1<<32 - 2, 1 << 33, 1 << 48, -1 << 32, 6 - 1<<32, math.MaxInt - 1,
	}, edgeNumbers...)
	for at, ok := range may {
		for _, n := range tried {
			nums := []int{17, 10, 20, 30, 40, n}
			nums[at] = n
			if !ok(n) {
				flowNotTaken(t, nums)
				continue
			}
			flowTaken(t, nums, api.Flow{Proto: nums[0], Src: api.Addr(nums[1]), SrcPort: nums[2], Dst: api.Addr(nums[3]), DstPort: nums[4]}, []int{n})
		}
	}
}

func TestFlowThereAndBack(t *testing.T) {
	r := rand.New(rand.NewPCG(6, 2))
	for range 2000 {
		f := api.Flow{Proto: 6, Src: api.Addr(r.Uint32()), SrcPort: r.IntN(65536), Dst: api.Addr(r.Uint32()), DstPort: r.IntN(65536)}
		if r.IntN(2) == 0 {
			f.Proto = 17
		}
		if addr.Check(f) != nil {
			t.Fatal(f)
		}
		flowTaken(t, append(codec.Flow(f), 1, 2), f, []int{1, 2})
	}
}

// P6.2

func TestThereAndBack(t *testing.T) {
	r := rand.New(rand.NewPCG(6, 3))
	list := messages()
	for range 500 {
		list = append(list, randomMessage(r))
	}
	for _, m := range list {
		b, err := codec.Frame(m)
		if err != nil {
			t.Fatalf("Frame(%.60v): %v", m, err)
		}
		taken(t, b, m)
	}
}

// Bytes that are changed at random and checked anew are a frame or not; where they are one, it is the frame of what was taken.
func TestBackAndThere(t *testing.T) {
	r := rand.New(rand.NewPCG(6, 4))
	took := 0
	for range 5000 {
		b := told(randomMessage(r))
		b = b[:len(b)-4]
		b[r.IntN(len(b))] = byte(r.Uint32())
		b = checked(b)
		m, err := codec.Parse(b)
		if err != nil {
			continue
		}
		took++
		if again, err := codec.Frame(m); !bytes.Equal(again, b) || err != nil {
			t.Fatalf("%x taken and framed again: %x, %v", b, again, err)
		}
	}
	if took < 2500 || took == 5000 {
		t.Errorf("%d of 5000 taken: nothing is told by it", took)
	}
}

func TestOtherMessagesHaveOtherFrames(t *testing.T) {
	seen := map[string]api.Msg{}
	for _, m := range messages() {
		b, err := codec.Frame(m)
		if err != nil {
			t.Fatal(err)
		}
		if was, ok := seen[string(b)]; ok && !alike(was, m) {
			t.Errorf("%.60v and %.60v have one frame", was, m)
		}
		seen[string(b)] = m
	}
}

// P6.3

func TestEachChangedByteIsRefused(t *testing.T) {
	for _, c := range byHand {
		b := row(t, c.text)
		for at := range b {
			for change := 1; change < 256; change++ {
				b[at] ^= byte(change)
				notTaken(t, "a byte changed", b)
				b[at] ^= byte(change)
			}
		}
		taken(t, b, c.m)
	}
}

func TestChangedBytesOfLongFramesAreRefused(t *testing.T) {
	b := told(api.Msg{Kind: 1, Nums: make([]int, api.MaxNums), Data: sized(api.MaxBytes)})
	for at := 0; at < len(b); at += 499 {
		b[at] ^= 0x80
		notTaken(t, "a byte changed", b)
		b[at] ^= 0x80
	}
	b[len(b)-1]++
	notTaken(t, "the last byte changed", b)
}

func TestCutFramesAreRefused(t *testing.T) {
	r := rand.New(rand.NewPCG(6, 5))
	list := [][]byte{told(api.Msg{Kind: 6, Data: told(api.Msg{Kind: 13, Nums: []int{7}})})}
	for _, c := range byHand {
		list = append(list, row(t, c.text))
	}
	for range 50 {
		list = append(list, told(randomMessage(r)))
	}
	for _, b := range list {
		for size := range b {
			notTaken(t, "cut behind", b[:size])
			notTaken(t, "cut ahead", b[size+1:])
			notTaken(t, "a byte taken out", slices.Delete(slices.Clone(b), size, size+1))
		}
		for size := range 20 {
			notTaken(t, "bytes behind", append(slices.Clone(b), make([]byte, size+1)...))
		}
		notTaken(t, "twice", append(slices.Clone(b), b...))
	}
}

// P6.4

func TestWhatIsHandedInStays(t *testing.T) {
	nums := append([]int{6, 1, 2, 3, 4, 9}, edgeNumbers...)
	data := []byte("data and spare room")
	frame := append(told(api.Msg{Kind: 1, Nums: nums[:6], Data: data[:4]}), "spare room"...)
	wasNums, wasData, wasFrame := slices.Clone(nums), slices.Clone(data), slices.Clone(frame)
	for _, kind := range []int{1, -1} {
		for count := range 7 {
			m := api.Msg{Kind: kind, Nums: nums[:count], Data: data[:4]}
			codec.Frame(m)
			codec.Same(m, api.Msg{Kind: kind, Nums: nums[1 : count+1], Data: data[1:5]})
			codec.Make(kind, nums[:count]...)
			codec.TakeFlow(nums[:count])
		}
	}
	for size := len(frame) - 20; size <= len(frame); size++ {
		codec.Parse(frame[:size])
	}
	if !slices.Equal(nums, wasNums) || !bytes.Equal(data, wasData) || !bytes.Equal(frame, wasFrame) {
		t.Error("what was handed in was changed")
	}
}

func TestFrameIsNewMemory(t *testing.T) {
	for _, m := range messages() {
		handed := copyOf(m)
		first, _ := codec.Frame(handed)
		second, _ := codec.Frame(handed)
		clear(first[:cap(first)])
		clear(handed.Nums)
		clear(handed.Data)
		if !bytes.Equal(second, told(m)) {
			t.Fatal("Frame's answers share memory with one another, or with what was handed in")
		}
	}
}

func TestParseIsNewMemory(t *testing.T) {
	for _, m := range messages() {
		b := append(told(m), 1, 2, 3)
		b = b[:len(b)-3]
		first, _ := codec.Parse(b)
		second, _ := codec.Parse(b)
		clear(first.Nums[:cap(first.Nums)])
		clear(first.Data[:cap(first.Data)])
		if !bytes.Equal(b[:cap(b)][len(b):len(b)+3], []byte{1, 2, 3}) {
			t.Fatal("Parse's answer has what was handed in as its spare room")
		}
		taken(t, b, m)
		clear(b)
		if !alike(second, m) {
			t.Fatal("Parse's answers share memory with one another, or with what was handed in")
		}
	}
}

func TestMakeIsNewMemory(t *testing.T) {
	nums := []int{1, 2, 3, 4}
	first, second := codec.Make(5, nums[:3]...), codec.Make(5, nums[:3]...)
	clear(first.Nums[:cap(first.Nums)])
	if !slices.Equal(nums, []int{1, 2, 3, 4}) {
		t.Errorf("the numbers are %v", nums)
	}
	clear(nums)
	if !alike(second, api.Msg{Kind: 5, Nums: []int{1, 2, 3}}) {
		t.Errorf("Make's answer became %v", second)
	}
	empty := codec.Make(5, nums[:0]...)
	if _ = append(empty.Nums, 7); nums[0] != 0 {
		t.Error("Make's answer has what was handed in as its spare room")
	}
}

func TestFlowIsNewMemory(t *testing.T) {
	f := api.Flow{Proto: 6, Src: 1, SrcPort: 2, Dst: 3, DstPort: 4}
	first, second := codec.Flow(f), codec.Flow(f)
	clear(first[:cap(first)])
	if !slices.Equal(second, []int{6, 1, 2, 3, 4}) {
		t.Errorf("Flow's answer became %v", second)
	}
	nums := []int{6, 1, 2, 3, 4, 7, 8, 9}
	_, one, _ := codec.TakeFlow(nums[:7])
	_, other, _ := codec.TakeFlow(nums[:7])
	clear(one[:cap(one)])
	if !slices.Equal(nums, []int{6, 1, 2, 3, 4, 7, 8, 9}) {
		t.Errorf("the numbers are %v", nums)
	}
	_, none, _ := codec.TakeFlow(nums[:5])
	if _ = append(none, 5); nums[5] != 7 {
		t.Error("TakeFlow's answer has what was handed in as its spare room")
	}
	clear(nums)
	if !slices.Equal(other, []int{7, 8}) {
		t.Errorf("TakeFlow's answer became %v", other)
	}
}
