package tests

import (
	"bytes"
	"encoding/binary"
	"fmt"
	"slices"
	"strings"
	"testing"

	"loop.example/g00252/impl"
)

// Chapter 17's limits, places and codes as the document names them, in numbers.
const (
	diskSize     = 198
	statusAt     = 2
	statusCount  = 2
	logAt        = 6
	logCount     = 64
	logBody      = 59
	logRoom      = 3776
	pageAt       = 134
	lsnGap       = 1000
	lastSeq      = 1000000
	mostWaiting  = 600
	storeWell    = 0
	storeBroken  = 1
	storeDown    = 2
	controlFrame = 9
)

// plainControlBody lays the numbers of a control as the document tells them, as many bits of each as fit.
func plainControlBody(c impl.Control) []byte {
	b := binary.LittleEndian.AppendUint32(nil, uint32(c.Seq))
	b = append(b, byte(c.Area))
	b = binary.LittleEndian.AppendUint32(b, uint32(c.Lsn))
	b = binary.LittleEndian.AppendUint32(b, uint32(c.Next))
	return append(b, byte(c.Pages))
}

// plainControl lays any control, a wrong one too, into a sector.
func plainControl(c impl.Control) []byte {
	return plainPadded(plainFrame(controlFrame, plainControlBody(c)), sectorSize)
}

// plainPadded is a copy of the bytes with bytes 0 behind.
func plainPadded(b []byte, size int) []byte {
	return append(bytes.Clone(b), make([]byte, size-len(b))...)
}

func plainControlOk(c impl.Control) bool {
	return c.Seq >= 1 && c.Seq <= lastSeq && (c.Area == 0 || c.Area == 1) && c.Lsn >= 1 && c.Lsn <= lastLsn &&
		c.Next >= 1 && c.Next <= lastXid+1 && c.Pages >= 0 && c.Pages <= mostPages
}

// plainLogSector lays a sector of a log; what it tells may be more bytes than it has.
func plainLogSector(seq int, count int, b []byte) []byte {
	sector := binary.LittleEndian.AppendUint32(nil, uint32(seq))
	return plainPadded(append(append(sector, byte(count)), b...), sectorSize)
}

// plainLogSectors lays a log into as many sectors as it needs.
func plainLogSectors(seq int, b []byte) []byte {
	var all []byte
	for part := range slices.Chunk(b, logBody) {
		all = append(all, plainLogSector(seq, len(part), part)...)
	}
	return all
}

func statusesAt(area int) int {
	return statusAt + statusCount*area
}

func logOf(area int) int {
	return logAt + logCount*area
}

func pageOf(page int) int {
	return pageAt + 4*page
}

func blankDisk() impl.Disk {
	d := impl.Disk{Fuse: -1}
	for range diskSize {
		d.Sectors = append(d.Sectors, make([]byte, sectorSize))
	}
	return d
}

// lay writes bytes on a disk from a sector on; all of it is safe, and nothing waits for it.
func lay(d impl.Disk, at int, b []byte) {
	for i, x := range b {
		d.Sectors[at+i/sectorSize][i%sectorSize] = x
	}
}

// changedDisk is a copy of the disk with a change.
func changedDisk(d impl.Disk, change func(d *impl.Disk)) impl.Disk {
	c := cloneDisk(d)
	change(&c)
	return c
}

// laidDisk has a control, its statuses, its log and pages.
func laidDisk(c impl.Control, list []int, log []byte, pages ...impl.Page) impl.Disk {
	d := blankDisk()
	lay(d, c.Seq%2, plainControl(c))
	lay(d, statusesAt(c.Area), plainStatusBytes(list))
	lay(d, logOf(c.Area), plainLogSectors(c.Seq, log))
	for i, p := range pages {
		lay(d, pageOf(i), plainPage(p))
	}
	return d
}

// readOf is what is read of n sectors: of each what the last waiting write says, else what is safe.
func readOf(d impl.Disk, at int, n int) []byte {
	var all []byte
	for i := at; i < at+n; i++ {
		sector := d.Sectors[i]
		for _, w := range d.Waiting {
			if w.At == i {
				sector = w.Data
			}
		}
		all = append(all, sector...)
	}
	return all
}

// otherStoreField tells the first field in which two stores are not the same; nothing, where they are.
func otherStoreField(a impl.Store, b impl.Store) string {
	switch {
	case a.Dead != b.Dead:
		return "Dead"
	case a.Control != b.Control:
		return "Control"
	case a.Safe != b.Safe:
		return "Safe"
	case !sameDisk(a.Disk, b.Disk):
		return "Disk"
	case otherField(a.Db, b.Db) != "":
		return "Db." + otherField(a.Db, b.Db)
	}
	return ""
}

func sameRun(a impl.Run, b impl.Run) bool {
	return slices.EqualFunc(a.Replies, b.Replies, sameReply) && otherStoreField(a.Store, b.Store) == ""
}

// deadStore is what is left, when the disk ended it.
func deadStore(d impl.Disk, c impl.Control) impl.Store {
	return impl.Store{Disk: d, Control: c, Dead: true}
}

func wantStore(t *testing.T, name string, got impl.Store, want impl.Store) {
	t.Helper()
	if field := otherStoreField(got, want); field != "" {
		t.Errorf("%s: %s is another one; the control is %v, want %v, Dead %t (%t), Safe %d (%d)",
			name, field, got.Control, want.Control, got.Dead, want.Dead, got.Safe, want.Safe)
	}
}

// keepOf reads bits, one for each waiting write; how many all or none may be told as all or none.
func keepOf(word string) []bool {
	switch word {
	case "all":
		return slices.Repeat([]bool{true}, mostWaiting)
	case "none":
		return nil
	}
	var keep []bool
	for _, c := range word {
		keep = append(keep, c == '1')
	}
	return keep
}

// storeOps reads a script in which evict and fuse have a number, and crash has bits of what it keeps.
func storeOps(t *testing.T, script string) []impl.Op {
	t.Helper()
	var ops []impl.Op
	for _, line := range linesOf(script) {
		line, _, _ = strings.Cut(line, "=>")
		words := append(strings.Fields(line), "")
		switch words[0] {
		case "evict", "fuse":
			ops = append(ops, impl.Op{Kind: slices.Index(opNames(), words[0]), N: numberOfWord(t, words[1])})
		case "crash":
			ops = append(ops, impl.Op{Kind: opCrash, Keep: keepOf(words[1])})
		default:
			ops = append(ops, opOfLine(t, line))
		}
	}
	return ops
}

// wantRun runs a script over a store; each line has its replies as for wantPlay.
func wantRun(t *testing.T, name string, script string) impl.Run {
	t.Helper()
	ops := storeOps(t, script)
	run := impl.StoreRun(ops)
	wantTold(t, name, script, ops, run.Replies)
	return run
}

// behind is the store behind a script.
func behind(t *testing.T, script string) impl.Store {
	t.Helper()
	return impl.StoreRun(storeOps(t, script)).Store
}

// wantWaiting asks for all waiting writes of a disk, in their order, by the sectors that they go to.
func wantWaiting(t *testing.T, name string, d impl.Disk, ats ...int) {
	t.Helper()
	var got []int
	for _, w := range d.Waiting {
		got = append(got, w.At)
	}
	if !slices.Equal(got, ats) {
		t.Errorf("%s: writes wait to the sectors %v, want %v", name, got, ats)
	}
}

// wantSectors asks for what is read of a disk from a sector on.
func wantSectors(t *testing.T, name string, d impl.Disk, at int, want []byte) {
	t.Helper()
	want = plainPadded(want, (len(want)+sectorSize-1)/sectorSize*sectorSize)
	if got := readOf(d, at, len(want)/sectorSize); !bytes.Equal(got, want) {
		t.Errorf("%s: from sector %d on stands\n%v\nwant\n%v", name, at, got, want)
	}
}

// committedOf tells what is committed in a store as a test's script has it.
func committedOf(db impl.Db) string {
	var words []string
	for _, pair := range impl.Committed(db.Heap, db.List) {
		words = append(words, wordOf(pair.Key)+"="+wordOf(pair.Value))
	}
	return strings.Join(words, " ")
}

// everyKeep are keeps of many kinds for n waiting writes: none, all, all but one, one alone, beginnings, ends, some.
func everyKeep(n int, seed uint64) [][]bool {
	keeps := [][]bool{nil, keepOf("all"), make([]bool, n)}
	for i := range n {
		one, butOne, first, last := make([]bool, n), make([]bool, n), make([]bool, i), make([]bool, n)
		for k := range n {
			one[k], butOne[k], last[k] = k == i, k != i, k >= i
		}
		for k := range first {
			first[k] = true
		}
		keeps = append(keeps, one, butOne, first, last)
	}
	for i := range uint64(6) {
		keeps = append(keeps, someKeep(n, seed*8+i))
	}
	return keeps
}

// fewKeeps are some of everyKeep, at most so many.
func fewKeeps(n int, most int, seed uint64) [][]bool {
	keeps := everyKeep(n, seed)
	if len(keeps) <= most {
		return keeps
	}
	few := keeps[:2:2]
	for i, x := range someBits(most-2, seed+3) {
		few = append(few, keeps[(int(x>>20)%len(keeps)+i)%len(keeps)])
	}
	return few
}

func nameOfKeep(keep []bool) string {
	text := ""
	for _, is := range keep[:min(len(keep), 90)] {
		text += fmt.Sprint(oneIf(is))
	}
	return "keep " + text
}
