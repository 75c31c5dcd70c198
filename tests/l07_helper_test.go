package tests

import (
	"bytes"
	"encoding/binary"
	"math"
	"slices"
	"testing"

	"loop.example/g00252/impl"
)

// The limits of chapter 7 as the document names them, in numbers.
const (
	lastLsn     = 1000000
	mostSlots   = 16
	longestSlot = 92
	bodySize    = 240
	pageSize    = 256
	sectorSize  = 64
	sectorPiece = 60
	pageSectors = 4
	lsnSize     = 4
)

// slotOf are n bytes, none of them 0, that the seed fixes.
func slotOf(n int, seed int) []byte {
	b := someBytes(n, uint64(seed)*53+11)
	for i := range b {
		b[i] |= 1
	}
	return b
}

// sizedPage has a slot of each of these sizes, each with bytes of its own; 0 is a free one.
func sizedPage(lsn int, sizes ...int) impl.Page {
	p := impl.Page{Lsn: lsn}
	for i, n := range sizes {
		var slot []byte
		if n > 0 {
			slot = slotOf(n, i)
		}
		p.Slots = append(p.Slots, slot)
	}
	return p
}

// sizesOf are n sizes, all of them alike.
func sizesOf(n int, size int) []int {
	return slices.Repeat([]int{size}, n)
}

// crammed are 16 sizes that make up a body of 240 bytes.
func crammed() []int {
	return append(sizesOf(15, 14), 13)
}

func clonePage(p impl.Page) impl.Page {
	c := impl.Page{Lsn: p.Lsn}
	for _, slot := range p.Slots {
		c.Slots = append(c.Slots, slices.Clip(bytes.Clone(slot)))
	}
	c.Slots = slices.Clip(c.Slots)
	return c
}

func samePage(a impl.Page, b impl.Page) bool {
	return a.Lsn == b.Lsn && slices.EqualFunc(a.Slots, b.Slots, bytes.Equal)
}

// plainUsed counts a page's bytes, -1 for what is not a page, as the document's words go.
func plainUsed(p impl.Page) int {
	if p.Lsn < 0 || p.Lsn > lastLsn || len(p.Slots) > mostSlots {
		return -1
	}
	used := 1
	for i, slot := range p.Slots {
		if len(slot) > longestSlot || i == len(p.Slots)-1 && len(slot) == 0 {
			return -1
		}
		used += 1 + len(slot)
	}
	if used > bodySize {
		return -1
	}
	return used
}

// plainPlace goes through the slots of a page as the document's words go.
func plainPlace(p impl.Page, n int) int {
	used := plainUsed(p)
	if used < 0 || n < 1 || n > longestSlot {
		return -1
	}
	for i, slot := range p.Slots {
		if len(slot) == 0 && used+n <= bodySize {
			return i
		}
	}
	if len(p.Slots) < mostSlots && used+1+n <= bodySize {
		return len(p.Slots)
	}
	return -1
}

// plainPut puts the data into a copy of the page, and asks plainUsed whether that is a page.
func plainPut(p impl.Page, slot int, data []byte, lsn int) (impl.Page, bool) {
	if plainUsed(p) < 0 || slot < 0 || slot >= mostSlots || len(data) == 0 || lsn < 1 || lsn > lastLsn {
		return impl.Page{}, false
	}
	after := clonePage(p)
	for len(after.Slots) <= slot {
		after.Slots = append(after.Slots, nil)
	}
	after.Slots[slot], after.Lsn = bytes.Clone(data), lsn
	if plainUsed(after) < 0 {
		return impl.Page{}, false
	}
	return after, true
}

func plainClear(p impl.Page, slot int, lsn int) (impl.Page, bool) {
	if plainUsed(p) < 0 || slot < 0 || slot >= len(p.Slots) || lsn < 1 || lsn > lastLsn {
		return impl.Page{}, false
	}
	after := clonePage(p)
	after.Slots[slot], after.Lsn = nil, lsn
	for n := len(after.Slots); n > 0 && len(after.Slots[n-1]) == 0; n-- {
		after.Slots = after.Slots[:n-1]
	}
	return after, true
}

// plainSlots lays slots one behind the other, behind their count and their lengths, without the bytes 0 behind.
func plainSlots(slots [][]byte) []byte {
	b := []byte{byte(len(slots))}
	for _, slot := range slots {
		b = append(b, byte(len(slot)))
	}
	return append(b, bytes.Join(slots, nil)...)
}

// plainSectors lays any bytes, as many of them as go in, as a body into the four sectors, with an Lsn ahead of each piece.
func plainSectors(body []byte, lsns ...uint32) []byte {
	whole := make([]byte, bodySize)
	copy(whole, body)
	var b []byte
	for i := range pageSectors {
		b = binary.LittleEndian.AppendUint32(b, lsns[i%len(lsns)])
		b = append(b, whole[i*sectorPiece:(i+1)*sectorPiece]...)
	}
	return b
}

// plainPage lays any page, one that is none too.
func plainPage(p impl.Page) []byte {
	return plainSectors(plainSlots(p.Slots), uint32(p.Lsn))
}

// namedPage is a page of a test's table.
type namedPage struct {
	name string
	p    impl.Page
}

// rightPages are pages that are as the chapter wants them, at its limits too.
func rightPages() []namedPage {
	l := []namedPage{
		{"zero page", impl.Page{}},
		{"zero page with an empty list", impl.Page{Slots: [][]byte{}}},
		{"no slots", sizedPage(7)},
		{"one byte", sizedPage(1, 1)},
		{"Lsn 0 and a slot", sizedPage(0, 9)},
		{"one slot of MaxTuple", sizedPage(2, longestSlot)},
		{"a free one first", sizedPage(3, 0, 4)},
		{"a free one between", sizedPage(4, 5, 0, 6)},
		{"free ones between", sizedPage(5, 5, 0, 0, 6, 0, 7)},
		{"free ones as empty lists", impl.Page{Lsn: 5, Slots: [][]byte{{}, make([]byte, 0, 8), {9}}}},
		{"bytes 0", impl.Page{Lsn: 6, Slots: [][]byte{{0}, {0, 0}, {0, 0, 0}}}},
		{"MaxSlots of one byte", sizedPage(8, sizesOf(mostSlots, 1)...)},
		{"MaxSlots, but the last free", sizedPage(9, append(sizesOf(mostSlots-1, 0), 1)...)},
		{"MaxSlots, one of them free", sizedPage(10, 2, 2, 2, 2, 0, 2, 2, 2, 2, 2, 2, 2, 2, 2, 2, 2)},
		{"one slot short of MaxSlots", sizedPage(11, sizesOf(mostSlots-1, 3)...)},
		{"PageBody met by three", sizedPage(12, 92, 92, 52)},
		{"PageBody met by three, a free one between", sizedPage(13, 92, 0, 92, 51)},
		{"one short of PageBody", sizedPage(14, 92, 92, 51)},
		{"two short of PageBody, a free one", sizedPage(15, 0, 92, 92, 49)},
		{"PageBody met by MaxSlots", sizedPage(16, crammed()...)},
		{"PageBody met by MaxSlots, one of them free", sizedPage(17, append([]int{0, 27}, crammed()[2:]...)...)},
		{"a body that ends with a sector", sizedPage(18, 58)},
		{"a body that goes a byte into the next sector", sizedPage(19, 59)},
	}
	for _, lsn := range []int{0, 1, 255, 256, 65535, 65536, lastLsn - 1, lastLsn} {
		l = append(l, namedPage{"an Lsn", sizedPage(lsn, 3, 0, 7)}, namedPage{"an Lsn without slots", sizedPage(lsn)})
	}
	return l
}

// wrongPages are pages that are none, each for one reason alone.
func wrongPages() []namedPage {
	var l []namedPage
	for _, lsn := range past([2]int{0, lastLsn}) {
		l = append(l, namedPage{"Lsn", sizedPage(lsn, 3, 0, 7)}, namedPage{"Lsn without slots", sizedPage(lsn)})
	}
	for _, n := range []int{mostSlots + 1, mostSlots + 2, 100, 119} {
		l = append(l, namedPage{"too many slots", sizedPage(1, sizesOf(n, 1)...)}, namedPage{"too many slots, all but one free", sizedPage(1, append(sizesOf(n-1, 0), 1)...)})
	}
	for _, n := range []int{longestSlot + 1, longestSlot + 2, 100, 200} {
		l = append(l, namedPage{"one slot, too long", sizedPage(1, n)}, namedPage{"first slot too long", sizedPage(1, n, 5)},
			namedPage{"slot between too long", sizedPage(1, 5, 0, n, 5)}, namedPage{"last slot too long", sizedPage(1, 0, 5, n)})
	}
	for _, sizes := range [][]int{{0}, {5, 0}, {0, 5, 0}, {5, 0, 0}, append(sizesOf(mostSlots-1, 1), 0), sizesOf(mostSlots, 0)} {
		p := sizedPage(1, sizes...)
		l = append(l, namedPage{"the last slot free", p})
		empty := clonePage(p)
		empty.Slots[len(sizes)-1] = make([]byte, 0, 8)
		l = append(l, namedPage{"the last slot an empty list", empty})
	}
	over := append([]int{15}, crammed()[1:]...)
	for _, sizes := range [][]int{{92, 92, 53}, {92, 0, 92, 52}, {92, 92, 92}, over, sizesOf(mostSlots, 14), sizesOf(mostSlots, 92)} {
		l = append(l, namedPage{"more than PageBody", sizedPage(1, sizes...)})
	}
	return l
}

// brokenPages are pages that are none for several reasons, or far past the limits.
func brokenPages() []namedPage {
	return []namedPage{
		{"many slots", sizedPage(1, sizesOf(70000, 1)...)},
		{"many free slots", impl.Page{Slots: make([][]byte, 70000)}},
		{"a long slot", sizedPage(1, 70000)},
		{"slots of 256 and 257 bytes", sizedPage(1, 256, 257)},
		{"256 slots", sizedPage(1, sizesOf(256, 1)...)},
		{"all at once", sizedPage(-1, append(sizesOf(300, 300), 0)...)},
		{"a wrong Lsn and a last slot that is free", sizedPage(math.MaxInt, 0)},
	}
}

// wrongLsns are numbers that no call takes as a new place in the log.
func wrongLsns() []int {
	return past([2]int{1, lastLsn})
}

func wantPage(t *testing.T, name string, got impl.Page, ok bool, want impl.Page) {
	t.Helper()
	if !ok || !samePage(got, want) {
		t.Errorf("%s: %v, %t, want %v", name, got, ok, want)
	}
}

// wantNoPage looks at the false, and that the zero value stands beside it.
func wantNoPage(t *testing.T, name string, got impl.Page, ok bool) {
	t.Helper()
	if ok || !samePage(got, impl.Page{}) {
		t.Errorf("%s: %v, %t, want the zero value and false", name, got, ok)
	}
}

// wantRead looks at what PageRead tells of bytes.
func wantRead(t *testing.T, name string, b []byte, want impl.Page) {
	t.Helper()
	got, ok := impl.PageRead(b)
	wantPage(t, name+": PageRead", got, ok, want)
}

func wantUnread(t *testing.T, name string, b []byte) {
	t.Helper()
	got, ok := impl.PageRead(b)
	wantNoPage(t, name+": PageRead", got, ok)
}
