package tests

import (
	"bytes"
	"testing"

	"loop.example/g00252/impl"
)

// zeros are n bytes 0, as a text.
func zeros(n int) string {
	return string(make([]byte, n))
}

func TestPageBytesByteByByte(t *testing.T) {
	long, longer := slotOf(58, 1), slotOf(92, 2)
	for _, c := range []struct {
		p     impl.Page
		pages [4]string
	}{
		{impl.Page{}, [4]string{zeros(64), zeros(64), zeros(64), zeros(64)}},
		{impl.Page{Lsn: 0x0F4240}, [4]string{"\x40\x42\x0F\x00" + zeros(60), "\x40\x42\x0F\x00" + zeros(60), "\x40\x42\x0F\x00" + zeros(60), "\x40\x42\x0F\x00" + zeros(60)}},
		{impl.Page{Lsn: 4, Slots: [][]byte{{9, 8}}}, [4]string{
			"\x04\x00\x00\x00" + "\x01" + "\x02" + "\x09\x08" + zeros(56),
			"\x04\x00\x00\x00" + zeros(60), "\x04\x00\x00\x00" + zeros(60), "\x04\x00\x00\x00" + zeros(60)}},
		{impl.Page{Lsn: 0x0102, Slots: [][]byte{nil, []byte("ab"), {}, []byte("cde")}}, [4]string{
			"\x02\x01\x00\x00" + "\x04" + "\x00\x02\x00\x03" + "abcde" + zeros(50),
			"\x02\x01\x00\x00" + zeros(60), "\x02\x01\x00\x00" + zeros(60), "\x02\x01\x00\x00" + zeros(60)}},
		{impl.Page{Lsn: 0x010203, Slots: [][]byte{long}}, [4]string{
			"\x03\x02\x01\x00" + "\x01" + "\x3A" + string(long),
			"\x03\x02\x01\x00" + zeros(60), "\x03\x02\x01\x00" + zeros(60), "\x03\x02\x01\x00" + zeros(60)}},
		{impl.Page{Lsn: 255, Slots: [][]byte{[]byte("x"), longer}}, [4]string{
			"\xFF\x00\x00\x00" + "\x02" + "\x01\x5C" + "x" + string(longer[:56]),
			"\xFF\x00\x00\x00" + string(longer[56:]) + zeros(24), "\xFF\x00\x00\x00" + zeros(60), "\xFF\x00\x00\x00" + zeros(60)}},
	} {
		want := c.pages[0] + c.pages[1] + c.pages[2] + c.pages[3]
		if got := impl.PageBytes(c.p); string(got) != want {
			t.Errorf("PageBytes(%v) = %x, want %x", c.p, got, want)
		}
		wantRead(t, "byte by byte", []byte(want), c.p)
	}
}

func TestPageBytesOfAFullPage(t *testing.T) {
	p := sizedPage(70000, 92, 92, 52)
	got := impl.PageBytes(p)
	if len(got) != pageSize {
		t.Fatalf("%d bytes", len(got))
	}
	body := append([]byte{3, 92, 92, 52}, bytes.Join(p.Slots, nil)...)
	for i := range pageSectors {
		sector := got[i*sectorSize : (i+1)*sectorSize]
		if string(sector[:lsnSize]) != "\x70\x11\x01\x00" {
			t.Errorf("sector %d begins with %x", i, sector[:lsnSize])
		}
		if !bytes.Equal(sector[lsnSize:], body[i*sectorPiece:(i+1)*sectorPiece]) {
			t.Errorf("sector %d has another piece of the body", i)
		}
	}
	if got[pageSize-1] != p.Slots[2][51] || got[pageSize-1] == 0 {
		t.Errorf("the last byte of a full page is %d", got[pageSize-1])
	}
}

func TestPageBytesOfAllPages(t *testing.T) {
	for _, r := range rightPages() {
		if got := impl.PageBytes(r.p); len(got) != pageSize || !bytes.Equal(got, plainPage(r.p)) {
			t.Errorf("%s: PageBytes = %x, want %x", r.name, got, plainPage(r.p))
		}
	}
}

func TestPageBytesOfTheZeroPageAreNoughts(t *testing.T) {
	if got := impl.PageBytes(impl.Page{}); !bytes.Equal(got, make([]byte, 256)) {
		t.Errorf("PageBytes of the zero page = %x", got)
	}
}

func TestPageBytesOfWhatIsNotAPageAreNone(t *testing.T) {
	for _, w := range append(wrongPages(), brokenPages()...) {
		if got := impl.PageBytes(w.p); len(got) != 0 {
			t.Errorf("%s: PageBytes has %d bytes", w.name, len(got))
		}
	}
}

func TestDifferentPagesHaveDifferentBytes(t *testing.T) {
	seen := map[string]impl.Page{}
	for _, r := range rightPages() {
		b := string(impl.PageBytes(r.p))
		if other, ok := seen[b]; ok && !samePage(r.p, other) {
			t.Errorf("%v and %v have the same bytes", r.p, other)
		}
		seen[b] = r.p
	}
}
