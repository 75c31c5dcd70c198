package tests

import (
	"fmt"
	"math"
	"slices"
	"testing"

	"loop.example/g00252/impl"
)

func TestVacuumOfNothing(t *testing.T) {
	p := wantPlay(t, "no rows", "vacuum => done\nvacuum 5 => done\nvacuum -9 => done")
	if field := otherField(p.Db, plainFresh()); field != "" {
		t.Errorf("%s was changed", field)
	}
	script := "begin 0 => done 1\nput 0 5 1 => done\ncommit 0 => done 1\nbegin 0 => done 2\nput 0 5 2 => done 1\nput 0 6 2 => done\n"
	was := impl.LiveRun(opsOf(t, script)).Db
	p = wantPlay(t, "nothing dead", script+"vacuum => done")
	if field := otherField(p.Db, was); field != "" {
		t.Errorf("%s was changed by a clean-up of nothing", field)
	}
}

func TestVacuumPlainly(t *testing.T) {
	p := wantPlay(t, "dead rows", `
		begin 0 => done 1
		put 0 5 1 => done
		put 0 6 1 => done
		put 0 5 2 => done 1
		put 0 7 1 => done
		commit 0 => done 1
		begin 0 => done 2
		delete 0 6 => done
		put 0 8 1 => done
		commit 0 => done 2
		begin 0 => done 3
		put 0 9 1 => done
		put 0 7 2 => done 1
		abort 0 => done
		vacuum => done 4
	`)
	wantLogged(t, "dead rows", p.Db,
		newImage(0), putOf(1, 0, 0, intItem(5), intItem(1)), putOf(1, 0, 1, intItem(6), intItem(1)), markOf(1, 0, 0), putOf(1, 0, 2, intItem(5), intItem(2)), putOf(1, 0, 3, intItem(7), intItem(1)), commitOf(1),
		markOf(2, 0, 1), putOf(2, 0, 4, intItem(8), intItem(1)), commitOf(2),
		putOf(3, 0, 5, intItem(9), intItem(1)), markOf(3, 0, 3), putOf(3, 0, 6, intItem(7), intItem(2)),
		clearOf(0, 0), clearOf(0, 1), clearOf(0, 5), clearOf(0, 6))
	wantHeap(t, "dead rows", p.Db.Heap, true, heapOf(pageWith(17, impl.Tuple{}, impl.Tuple{}, tupleBy(1, 0, intItem(5), intItem(2)), tupleBy(1, 3, intItem(7), intItem(1)), tupleBy(2, 0, intItem(8), intItem(1)))))
	wantEntries(t, "dead rows", impl.TreeAll(p.Db.Tree), []impl.Entry{entryOf(5, 2), entryOf(7, 3), entryOf(8, 4)})
	wantNumbers(t, "dead rows", p.Db, 4, 6, 0, 18)
	wantCommitted(t, "dead rows", p.Db, "5=2 7=1 8=1")
	if !slices.Equal(p.Db.List, []int{0, done, done, gone}) {
		t.Errorf("the list is %v", p.Db.List)
	}
}

// Pages in their order, and slots in each; an image comes only where there was none.
func TestVacuumOverSeveralPages(t *testing.T) {
	p := wantPlay(t, "pages", `
		begin 0 => done 1
		put 0 t40*a t40*v => done
		put 0 t40*b t40*v => done
		put 0 t40*c t40*v => done
		put 0 t40*d t40*v => done
		put 0 t40*e t40*v => done
		commit 0 => done 1
		begin 0 => done 2
		delete 0 t40*e => done
		delete 0 t40*c => done
		delete 0 t40*b => done
		commit 0 => done 2
		vacuum => done 3
		vacuum => done
	`)
	log := p.Db.Log[len(p.Db.Log)-3:]
	want := []impl.Record{{Kind: impl.RecClear, Lsn: 14, Page: 0, Slot: 1}, {Kind: impl.RecClear, Lsn: 15, Page: 1, Slot: 0}, {Kind: impl.RecClear, Lsn: 16, Page: 2, Slot: 0}}
	if !sameLog(log, want) || p.Db.Lsn != 17 {
		t.Errorf("the last records are %v, want %v", log, want)
	}
	if len(p.Db.Heap.Pages) != 3 || p.Db.Heap.Pages[2].Lsn != 16 || len(p.Db.Heap.Pages[2].Slots) != 0 || p.Db.Heap.Pages[0].Lsn != 14 {
		t.Errorf("the heap is %v", p.Db.Heap)
	}
}

// What a transaction that is Open may still see stays, up to its end.
func TestVacuumUnderAnOpenSeat(t *testing.T) {
	rows := "begin 0 => done 1\nput 0 5 1 => done\nput 0 6 1 => done\ncommit 0 => done 1\n"
	for _, begin := range []string{"begin", "order"} {
		wantPlay(t, "one that began ahead of it", rows+begin+` 1 => done 2
			begin 0 => done 3
			put 0 5 2 => done 1
			delete 0 6 => done
			commit 0 => done 3
			vacuum => done
			get 1 5 => done is 1
			scan 1 0 9 9 => done 2 5=1 6=1
			commit 1 => done 2
			vacuum => done 2
			vacuum => done
		`)
		wantPlay(t, "one that began while it ran", rows+`begin 0 => done 2
			put 0 5 2 => done 1
			`+begin+` 1 => done 3
			delete 0 6 => done
			commit 0 => done 2
			vacuum => done
			get 1 5 => done is 1
			get 1 6 => done is 1
			begin 0 => done 4
			vacuum => done
			abort 1 => done
			vacuum => done 2
			abort 0 => done
			vacuum => done
		`)
		wantPlay(t, "one that began behind it", rows+`begin 0 => done 2
			put 0 5 2 => done 1
			delete 0 6 => done
			commit 0 => done 2
			`+begin+` 1 => done 3
			vacuum => done 2
			get 1 5 => done is 2
			get 1 6 => none
		`)
		wantPlay(t, "one that only holds those back that ran when it began", rows+`begin 7 => done 2
			begin 0 => done 3
			put 0 5 2 => done 1
			commit 0 => done 3
			`+begin+` 1 => done 4
			abort 7 => done
			vacuum => done
			commit 1 => done 4
			vacuum => done 1
		`)
	}
}

// What was given up is dead under all seats, also under one in whose time it came.
func TestVacuumOfWhatWasGivenUp(t *testing.T) {
	wantPlay(t, "given up", `
		begin 1 => done 1
		begin 0 => done 2
		put 0 5 1 => done
		put 0 5 2 => done 1
		vacuum => done
		abort 0 => done
		vacuum => done 2
		get 1 5 => none
		put 1 5 3 => done
		vacuum => done
		put 1 5 4 => done 1
		vacuum => done
		commit 1 => done 1
		vacuum => done 1
		begin 2 => done 3
		get 2 5 => done is 4
	`)
	wantPlay(t, "under one that waits", `
		begin 0 => done 1
		begin 1 => done 2
		begin 2 => done 3
		put 2 9 9 => done
		put 0 5 1 => done
		put 1 5 2 => wait 1
		abort 2 => done
		vacuum => done 1
		abort 0 => done; 1 put done
		vacuum => done 1
		commit 1 => done 2
		vacuum => done
	`)
}

// Behind a clean-up with all seats shut there is one row of each key that is committed, and no other.
func TestVacuumWithAllSeatsShut(t *testing.T) {
	count := 0
	for i, d := range drawnKinds() {
		d.n = min(d.n, mostOps-3*d.seats-1)
		for seed := range uint64(15) {
			ops := drawOps(d, seed+300*uint64(i))
			var ends []impl.Op
			for seat := range d.seats {
				ends = append(ends, impl.Op{Kind: opAbort, Seat: seat})
			}
			// A seat that waits is busy, and can be shut when its holder is gone.
			p := impl.LiveRun(slices.Concat(ops, ends, ends, ends, []impl.Op{{Kind: opVacuum}}))
			if slices.ContainsFunc(p.Db.Seats, func(s impl.Seat) bool { return s.Open }) {
				continue
			}
			count += oneIf(p.Replies[len(p.Replies)-1].N > 0)
			name := fmt.Sprint("kind ", i, ", seed ", seed)
			pairs := impl.Committed(p.Db.Heap, p.Db.List)
			rows := plainRows(p.Db.Heap)
			for k, pair := range pairs {
				if k > 0 && plainEntryOrder(impl.Entry{Key: pairs[k-1].Key}, impl.Entry{Key: pair.Key}) >= 0 {
					t.Errorf("%s: two rows of one key, or not by their keys: %v", name, pairs)
				}
				if n := len(plainVersions(p.Db.Heap, pair.Key)); n != 1 {
					t.Errorf("%s: %d rows of %s", name, n, wordOf(pair.Key))
				}
			}
			if len(pairs) != len(rows) {
				t.Errorf("%s: %d rows, of which %d are committed", name, len(rows), len(pairs))
			}
			wantTreeOfRows(t, name, p.Db)
		}
	}
	if count < 100 {
		t.Errorf("%d clean-ups alone had something to do", count)
	}
}

func TestCommittedPlainly(t *testing.T) {
	row := func(xmin int, xmax int, key int) impl.Tuple {
		return tupleBy(xmin, xmax, intItem(key), intItem(100*xmin+xmax))
	}
	list := []int{0, done, gone, running, done, gone, running}
	for _, of := range []struct {
		name string
		h    impl.Heap
		l    []int
		want string
	}{
		{"no rows", impl.Heap{}, list, ""},
		{"a page without rows", heapOf(impl.Page{Lsn: 4}), list, ""},
		{"Xmin of each status", heapOf(pageWith(1, row(1, 0, 1), row(2, 0, 2), row(3, 0, 3), row(4, 0, 4))), list, "1=100 4=400"},
		{"Xmax of each status", heapOf(pageWith(1, row(1, 4, 1), row(1, 2, 2), row(1, 3, 3), row(1, 0, 4))), list, "2=102 3=103 4=100"},
		{"both of each status", heapOf(pageWith(1, row(2, 1, 1), row(2, 2, 2), row(2, 3, 3), row(3, 1, 4), row(3, 2, 5), row(3, 3, 6), row(1, 1, 7))), list, ""},
		{"statuses behind the list", heapOf(pageWith(1, row(7, 0, 1), row(400, 0, 2), row(1, 7, 3), row(1, 400, 4))), list, "3=107 4=500"},
		{"no list", heapOf(pageWith(1, row(1, 0, 1))), nil, ""},
		{"by their keys", heapOf(pageWith(1, row(1, 0, 9), row(1, 0, -3)), pageWith(2, row(4, 0, 5), row(1, 0, 0))), list, "-3=100 0=100 5=400 9=100"},
		{"several rows of one key", heapOf(pageWith(1, row(4, 0, 5), row(1, 2, 5), row(1, 0, 4)), pageWith(2, row(1, 3, 5), row(4, 5, 5), row(1, 4, 5))), list, "4=100 5=400 5=102 5=103 5=405"},
		{"the place 0 counts for nothing", heapOf(pageWith(1, row(1, 0, 1))), []int{done, done}, "1=100"},
		{"numbers that are no statuses", heapOf(pageWith(1, row(1, 0, 1), row(2, 3, 2))), []int{0, 257, done, 3}, "2=203"},
	} {
		wantCommitted(t, of.name, impl.Db{Heap: of.h, List: of.l}, of.want)
	}
	var l []string
	for _, pair := range impl.Committed(heapOf(pageWith(1, tupleBy(1, 0, textItem("a"), intItem(1)), tupleBy(1, 0, floatItem(plainNaN()), floatItem(minusNought())), tupleBy(1, 0, textItem(""), textItem("")), tupleBy(1, 0, floatItem(0), intItem(2)), tupleBy(1, 0, intItem(math.MaxInt), intItem(3)))), []int{0, done}) {
		l = append(l, wordOf(pair.Key)+"="+wordOf(pair.Value))
	}
	if want := []string{"9223372036854775807=3", "f0=2", "fNaN=f-0", "t=t", "ta=1"}; !slices.Equal(l, want) {
		t.Errorf("keys of all kinds: %v, want %v", l, want)
	}
}

func TestCommittedOfHeapsThatAreNotOk(t *testing.T) {
	list := sameOf(401, done)
	for _, of := range slices.Concat(wrongHeaps(), brokenHeaps()) {
		if got := impl.Committed(of.h, list); len(got) != 0 && !plainHeapOk(of.h) {
			t.Errorf("%s: %v", of.name, got)
		}
	}
	for _, of := range rightHeaps() {
		var want int
		for _, r := range plainRows(of.h) {
			want += oneIf(r.Tuple.Xmax == 0)
		}
		if got := impl.Committed(of.h, list); len(got) != want {
			t.Errorf("%s: %d rows, want %d", of.name, len(got), want)
		}
	}
}

func TestCommittedIsAsTheDocumentSays(t *testing.T) {
	count := 0
	for seed := range uint64(400) {
		h, list := someHeap(seed+9), someSays(13, seed)
		var want []impl.Pair
		for _, key := range fewKeysRising() {
			for _, r := range plainVersions(h, key) {
				if plainStatusOf(list, r.Tuple.Xmin) == done && plainStatusOf(list, r.Tuple.Xmax) != done {
					want = append(want, impl.Pair{Key: r.Tuple.Key, Value: r.Tuple.Value})
				}
			}
		}
		if got := impl.Committed(h, list); !slices.EqualFunc(got, want, samePair) {
			t.Errorf("seed %d: %v, want %v", seed, got, want)
		}
		count += len(want)
	}
	if count < 500 {
		t.Errorf("%d rows alone", count)
	}
}

// fewKeysRising are the keys of someHeap, ascending.
func fewKeysRising() []impl.Item {
	keys := fewKeys()
	slices.SortFunc(keys, func(a impl.Item, b impl.Item) int { return slices.Compare(plainKey(a), plainKey(b)) })
	return keys
}
