package tests

import (
	"bytes"
	"fmt"
	"testing"

	"loop.example/g00252/impl"
)

func TestPagesComeBackFromTheirBytes(t *testing.T) {
	for _, r := range rightPages() {
		wantRead(t, r.name, impl.PageBytes(r.p), r.p)
		wantRead(t, r.name, plainPage(r.p), r.p)
	}
	for n := 1; n <= longestSlot; n++ {
		for m := range longestSlot + 1 {
			p := sizedPage(n+m, m, 0, n)
			wantRead(t, "slots of each length", impl.PageBytes(p), p)
		}
	}
}

func TestBytesNoughtAreTheZeroPage(t *testing.T) {
	wantRead(t, "bytes 0", make([]byte, pageSize), impl.Page{})
	for n := range pageSize {
		wantUnread(t, fmt.Sprint(n, " bytes 0"), make([]byte, n))
	}
	for _, n := range []int{257, 258, 320, 512, 65536, 65536 + 256} {
		wantUnread(t, fmt.Sprint(n, " bytes 0"), make([]byte, n))
	}
}

func TestPageReadOfTooFewAndTooMany(t *testing.T) {
	wantUnread(t, "no bytes", nil)
	wantUnread(t, "an empty list", []byte{})
	for _, r := range rightPages() {
		whole := plainPage(r.p)
		for cut := range len(whole) {
			wantUnread(t, r.name+", cut", whole[:cut])
		}
		for _, more := range [][]byte{{0}, {7}, whole[:4], whole[:64], whole} {
			wantUnread(t, r.name+", with more behind", join(whole, more))
		}
	}
}

func TestPageReadDoesNotLookBehindTheBytes(t *testing.T) {
	for _, r := range rightPages() {
		whole := plainPage(r.p)
		wantRead(t, r.name, join(whole, []byte{1, 2, 3})[:pageSize], r.p)
		wantUnread(t, r.name+", its last byte behind the length", whole[:pageSize-1])
		wantUnread(t, r.name+", all behind the length", whole[:0])
	}
}

func TestSectorsOfTwoPlacesInTheLogAreNoPage(t *testing.T) {
	slots := plainSlots(sizedPage(0, 92, 0, 92, 40).Slots)
	for _, lsns := range [][2]uint32{{1, 2}, {5, 0}, {7, 7 + 256}, {7, 7 + 65536}, {9, 9 + 1<<24}, {lastLsn, lastLsn - 1}} {
		for which := 1; which < 15; which++ {
			var of [4]uint32
			for i := range of {
				of[i] = lsns[which>>i&1]
			}
			wantUnread(t, fmt.Sprint("Lsn ", of), plainSectors(slots, of[:]...))
			wantUnread(t, fmt.Sprint("Lsn ", of, " without slots"), plainSectors(nil, of[:]...))
		}
	}
}

// A page that is written over is, on the way, sectors of the one and of the other.
func TestPagesThatAreHalfWrittenOverAreNone(t *testing.T) {
	before := sizedPage(40, 30, 0, 60, 20)
	put, _ := impl.PagePut(before, 1, slotOf(50, 33), 41)
	cleared, _ := impl.PageClear(before, 3, 42)
	for _, after := range []impl.Page{put, cleared, {Lsn: 43}} {
		old, fresh := impl.PageBytes(before), impl.PageBytes(after)
		for which := range 16 {
			mixed := bytes.Clone(old)
			for i := range pageSectors {
				if which>>i&1 == 1 {
					copy(mixed[i*sectorSize:(i+1)*sectorSize], fresh[i*sectorSize:])
				}
			}
			switch which {
			case 0:
				wantRead(t, "no sector written over", mixed, before)
			case 15:
				wantRead(t, "all sectors written over", mixed, after)
			default:
				wantUnread(t, fmt.Sprint("some sectors written over, ", which), mixed)
			}
		}
	}
}

func TestPageReadByTheLsn(t *testing.T) {
	slots := plainSlots([][]byte{[]byte("ab"), nil, []byte("c")})
	for _, lsn := range []uint32{0, 1, 255, 256, 65535, 65536, lastLsn - 1, lastLsn} {
		want := impl.Page{Lsn: int(lsn), Slots: [][]byte{[]byte("ab"), nil, []byte("c")}}
		wantRead(t, fmt.Sprint("Lsn ", lsn), plainSectors(slots, lsn), want)
	}
	for _, lsn := range []uint32{lastLsn + 1, lastLsn + 2, 1 << 24, 1 << 31, 1<<31 - 1, 1<<32 - 1} {
		wantUnread(t, fmt.Sprint("Lsn ", lsn), plainSectors(slots, lsn))
		wantUnread(t, fmt.Sprint("Lsn ", lsn, " without slots"), plainSectors(nil, lsn))
	}
}

func TestPageReadByTheBody(t *testing.T) {
	full := plainSlots(sizedPage(0, 92, 92, 52).Slots)
	for _, c := range []struct {
		name string
		body []byte
	}{
		{"17 slots", plainSlots(sizedPage(0, sizesOf(17, 1)...).Slots)},
		{"17 slots, but one all free", append([]byte{17}, append(make([]byte, 16), 1, 7)...)},
		{"239 slots", append([]byte{239}, make([]byte, 239)...)},
		{"240 slots", append([]byte{240}, make([]byte, 239)...)},
		{"255 slots", append([]byte{255}, make([]byte, 239)...)},
		{"255 slots of 255", bytes.Repeat([]byte{255}, 240)},
		{"a slot of 93", plainSlots(sizedPage(0, 93).Slots)},
		{"a slot of 93 between", plainSlots(sizedPage(0, 4, 93, 4).Slots)},
		{"a slot of 93 last", plainSlots(sizedPage(0, 4, 4, 93).Slots)},
		{"a slot of 238, up to the end of the body", plainSlots(sizedPage(0, 238).Slots)},
		{"a slot of 239, past the end of the body", plainSlots(sizedPage(0, 239).Slots)},
		{"a slot of 255, past the end of the body", []byte{1, 255, 1, 2, 3}},
		{"slots one byte past the end of the body", append([]byte{3, 92, 92, 53}, full[4:]...)},
		{"slots a length byte past the end of the body", append([]byte{4, 92, 0, 92, 52}, full[4:]...)},
		{"slots far past the end of the body", append([]byte{3, 92, 92, 92}, full[4:]...)},
		{"a first length past the end, a second one not", []byte{2, 255, 1}},
		{"one slot that is free", []byte{1, 0}},
		{"a last slot that is free", append([]byte{2, 3, 0}, "abc"...)},
		{"last slots that are free", append([]byte{4, 0, 3, 0, 0}, "abc"...)},
		{"16 free slots", append([]byte{16}, make([]byte, 16)...)},
		{"a byte 1 behind no slots", []byte{0, 1}},
		{"a byte behind the last slot", append([]byte{1, 3}, "abcd"...)},
		{"a byte at the end", append(append([]byte{1, 3}, "abc"...), append(make([]byte, 234), 1)...)},
		{"a byte at the end, without slots", append(make([]byte, 239), 255)},
	} {
		wantUnread(t, c.name, plainSectors(c.body, 5))
	}
	wantRead(t, "PageBody just met", plainSectors(full, 5), sizedPage(5, 92, 92, 52))
}

func TestPageReadOfBytesOtherThanNoughtBehind(t *testing.T) {
	p := sizedPage(5, 20, 0, 50)
	whole := plainPage(p)
	for at := impl.PageUsed(p); at < bodySize; at++ {
		b := bytes.Clone(whole)
		b[at/sectorPiece*sectorSize+lsnSize+at%sectorPiece] = 1
		wantUnread(t, fmt.Sprint("byte ", at, " of the body"), b)
	}
}

// plainPageRead reads a page from its bytes front to back, as the document's words go.
func plainPageRead(b []byte) (impl.Page, bool) {
	if len(b) != pageSize {
		return impl.Page{}, false
	}
	var body []byte
	for i := range pageSectors {
		if !bytes.Equal(b[i*sectorSize:i*sectorSize+lsnSize], b[:lsnSize]) {
			return impl.Page{}, false
		}
		body = append(body, b[i*sectorSize+lsnSize:(i+1)*sectorSize]...)
	}
	p := impl.Page{Lsn: int(b[0]) + int(b[1])<<8 + int(b[2])<<16 + int(b[3])<<24}
	count := int(body[0])
	if count > mostSlots {
		return impl.Page{}, false
	}
	at := 1 + count
	for _, n := range body[1:at] {
		if at+int(n) > bodySize {
			return impl.Page{}, false
		}
		p.Slots = append(p.Slots, body[at:at+int(n)])
		at += int(n)
	}
	if plainUsed(p) < 0 || len(bytes.TrimRight(body[at:], "\x00")) > 0 {
		return impl.Page{}, false
	}
	return p, true
}

func wantReadAsPlainly(t *testing.T, name string, b []byte) {
	t.Helper()
	got, ok := impl.PageRead(b)
	want, well := plainPageRead(b)
	if ok != well || !samePage(got, want) {
		t.Errorf("%s: PageRead(%x) = %v, %t, want %v, %t", name, b, got, ok, want, well)
	}
	if ok && !bytes.Equal(impl.PageBytes(got), b) {
		t.Errorf("%s: what is read has other bytes than %x", name, b)
	}
}

func TestPageReadOfAByteChanged(t *testing.T) {
	for _, r := range rightPages() {
		whole := plainPage(r.p)
		for at := range whole {
			for _, turn := range []byte{1, 2, 16, 92, 128, 255} {
				b := bytes.Clone(whole)
				b[at] ^= turn
				wantReadAsPlainly(t, r.name+", a byte changed", b)
				if at%sectorSize < lsnSize {
					wantUnread(t, r.name+", a byte of an Lsn changed", b)
				}
			}
		}
	}
}

// Bodies of a few small numbers: most of them are no page, some are.
func TestPageReadOfSomeBodies(t *testing.T) {
	pages := 0
	for seed := range 20000 {
		drawn := someBytes(24, uint64(seed)*91+3)
		body := []byte{drawn[0] % 20}
		for _, n := range drawn[1:] {
			body = append(body, n%4)
		}
		b := plainSectors(body[:1+int(drawn[1])%24], uint32(seed))
		if _, ok := plainPageRead(b); ok {
			pages++
		}
		wantReadAsPlainly(t, "some body", b)
	}
	if pages < 100 || pages > 19000 {
		t.Errorf("%d of these bodies are pages", pages)
	}
}
