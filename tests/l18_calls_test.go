package tests

import (
	"math"
	"reflect"
	"slices"
	"testing"

	"loop.example/g00252/impl"
)

// functionCall is a function with arguments that are as its chapter wants them, to which it answers something.
type functionCall struct {
	name string
	f    any
	good []any
}

func (c functionCall) arguments() []reflect.Value {
	var l []reflect.Value
	for _, a := range c.good {
		l = append(l, reflect.ValueOf(a))
	}
	return l
}

func (c functionCall) zeros() []reflect.Value {
	var l []reflect.Value
	for i := range reflect.TypeOf(c.f).NumIn() {
		l = append(l, reflect.Zero(reflect.TypeOf(c.f).In(i)))
	}
	return l
}

// allCalls are calls of all functions that the document lists, in its order.
func allCalls(t *testing.T) []functionCall {
	t.Helper()
	return slices.Concat(callsOfBytes(), callsOfDisksAndRecords(), callsOfPages(), callsOfHeapsAndTrees(t), callsOfOrders(), callsOfScripts(t))
}

func callsOfBytes() []functionCall {
	key, value, minus := intItem(5), textItem("value"), floatItem(minusNought())
	return []functionCall{
		{"PutNum", impl.PutNum, []any{258, 2}},
		{"GetNum", impl.GetNum, []any{[]byte{9, 2, 1, 9}, 1, 2}},
		{"Crc", impl.Crc, []any{[]byte("123456789")}},
		{"Frame", impl.Frame, []any{5, []byte("body")}},
		{"FrameAt", impl.FrameAt, []any{plainFrame(5, []byte("body")), 0}},
		{"FloatBits", impl.FloatBits, []any{1.5}},
		{"FloatOf", impl.FloatOf, []any{oneBits}},
		{"FloatRank", impl.FloatRank, []any{1.5}},
		{"FloatUnrank", impl.FloatUnrank, []any{midRank + 1}},
		{"FloatCompare", impl.FloatCompare, []any{1.5, 2.5}},
		{"FloatSum", impl.FloatSum, []any{[]float64{1.5, 2.5}}},
		{"ItemOk", impl.ItemOk, []any{key}},
		{"ItemCompare", impl.ItemCompare, []any{key, value}},
		{"ItemClean", impl.ItemClean, []any{minus}},
		{"KeyOk", impl.KeyOk, []any{key}},
		{"KeyBytes", impl.KeyBytes, []any{key}},
		{"KeyRead", impl.KeyRead, []any{impl.KeyBytes(value)}},
		{"ValueBytes", impl.ValueBytes, []any{minus}},
		{"ValueRead", impl.ValueRead, []any{impl.ValueBytes(minus)}},
		{"InSpan", impl.InSpan, []any{intItem(1), value, key}},
	}
}

func callsOfDisksAndRecords() []functionCall {
	d := impl.Disk{Sectors: heldDisk().Sectors[:9], Waiting: []impl.Write{{At: 3, Data: someBytes(64, 3)}}, Fuse: 5}
	put := putRecord(7, 6, 5, 4, 30)
	return []functionCall{
		{"DiskNew", impl.DiskNew, []any{3}},
		{"DiskOk", impl.DiskOk, []any{d}},
		{"DiskRead", impl.DiskRead, []any{d, 3}},
		{"DiskWrite", impl.DiskWrite, []any{d, 3, someBytes(64, 4)}},
		{"DiskSync", impl.DiskSync, []any{d}},
		{"DiskFuse", impl.DiskFuse, []any{d, 4}},
		{"DiskCrash", impl.DiskCrash, []any{d, []bool{true}}},
		{"RecordOk", impl.RecordOk, []any{put}},
		{"RecordBytes", impl.RecordBytes, []any{put}},
		{"RecordAt", impl.RecordAt, []any{plainRecord(put), 0}},
		{"LogScan", impl.LogScan, []any{plainLog(someLog(6, 3)), 3}},
		{"LogBytes", impl.LogBytes, []any{someLog(6, 3)}},
		{"TupleOk", impl.TupleOk, []any{oneTuple()}},
		{"TupleBytes", impl.TupleBytes, []any{oneTuple()}},
		{"TupleRead", impl.TupleRead, []any{plainTuple(oneTuple())}},
	}
}

func callsOfPages() []functionCall {
	p, list := heldPages()[0], heldList()
	s := impl.Snap{Self: 5, Running: []int{2, 4}}
	return []functionCall{
		{"PageUsed", impl.PageUsed, []any{p}},
		{"PagePlace", impl.PagePlace, []any{p, 20}},
		{"PagePut", impl.PagePut, []any{p, 1, []byte("slot"), 60}},
		{"PageClear", impl.PageClear, []any{p, 1, 60}},
		{"PageBytes", impl.PageBytes, []any{p}},
		{"PageRead", impl.PageRead, []any{plainPage(p)}},
		{"StatusOf", impl.StatusOf, []any{list, 2}},
		{"StatusSet", impl.StatusSet, []any{list, 9, gone}},
		{"StatusSettle", impl.StatusSettle, []any{list, 9}},
		{"StatusBytes", impl.StatusBytes, []any{list}},
		{"StatusRead", impl.StatusRead, []any{plainStatusBytes(list), len(list)}},
		{"SnapOk", impl.SnapOk, []any{s}},
		{"Sees", impl.Sees, []any{s, list, 1}},
		{"Visible", impl.Visible, []any{s, list, 1, 2}},
		{"Horizon", impl.Horizon, []any{[]impl.Snap{s}, 9}},
		{"Dead", impl.Dead, []any{list, 1, 2, 4}},
	}
}

func callsOfHeapsAndTrees(t *testing.T) []functionCall {
	t.Helper()
	db := impl.LiveRun(opsOf(t, "begin 0\nput 0 5 ta\nput 0 6 tb\nput 0 7 f1.5\nput 0 8 t40*c\nput 0 9 t40*d\nput 0 10 t40*e\ncommit 0\nbegin 1\ndelete 1 6\ncommit 1\nbegin 2\nput 2 7 9")).Db
	h, tree := db.Heap, db.Tree
	return []functionCall{
		{"HeapOk", impl.HeapOk, []any{h}},
		{"HeapRows", impl.HeapRows, []any{h}},
		{"HeapAt", impl.HeapAt, []any{h, 0, 1}},
		{"HeapVersions", impl.HeapVersions, []any{h, intItem(7)}},
		{"HeapPlace", impl.HeapPlace, []any{h, 40}},
		{"HeapPut", impl.HeapPut, []any{h, 1, 9, oneTuple(), 900}},
		{"HeapMark", impl.HeapMark, []any{h, 0, 1, 9, 900}},
		{"HeapClear", impl.HeapClear, []any{h, 0, 1, 900}},
		{"HeapDead", impl.HeapDead, []any{h, db.List, 3}},
		{"TreeNew", impl.TreeNew, nil},
		{"TreeOk", impl.TreeOk, []any{tree}},
		{"TreeAll", impl.TreeAll, []any{tree}},
		{"TreeHeight", impl.TreeHeight, []any{tree}},
		{"TreeFind", impl.TreeFind, []any{tree, intItem(7)}},
		{"TreeSpan", impl.TreeSpan, []any{tree, intItem(6), intItem(9)}},
		{"TreeAdd", impl.TreeAdd, []any{tree, textItem("key"), 77}},
		{"TreeDrop", impl.TreeDrop, []any{tree, intItem(5), 0}},
		{"Committed", impl.Committed, []any{h, db.List}},
		{"RedoOne", impl.RedoOne, []any{heapOf(), db.Log[0]}},
		{"RedoAll", impl.RedoAll, []any{heapOf(), db.Log}},
		{"RedoList", impl.RedoList, []any{[]int{0}, db.Log, 1}},
	}
}

func callsOfOrders() []functionCall {
	waits := []impl.Wait{{Who: 1, For: 2}, {Who: 2, For: 3}, {Who: 3, For: 1}, {Who: 4, For: 3}}
	tracks := []impl.Track{
		{Xid: 1, Begun: 1, Ended: 5, Reads: []impl.Span{textSpan("a", "c")}, Writes: []impl.Item{intItem(5)}, In: true},
		{Xid: 2, Begun: 2, Writes: []impl.Item{textItem("b")}},
		{Xid: 3, Begun: 3, All: true},
	}
	ring := []impl.Deed{
		{Begun: 1, Ended: 3, Reads: []impl.Span{textSpan("a", "a")}, Writes: []impl.Item{textItem("b")}},
		{Begun: 2, Ended: 4, Reads: []impl.Span{textSpan("b", "c")}, Writes: []impl.Item{textItem("a")}},
	}
	return []functionCall{
		{"WaitsOk", impl.WaitsOk, []any{waits}},
		{"WaitNext", impl.WaitNext, []any{waits, 2}},
		{"WaitRing", impl.WaitRing, []any{waits, 2}},
		{"WaitCloses", impl.WaitCloses, []any{waits[:2], 3, 1}},
		{"WaitFree", impl.WaitFree, []any{waits, 3}},
		{"SpanOk", impl.SpanOk, []any{spanOf(3, 5)}},
		{"TrackReads", impl.TrackReads, []any{tracks[0], textItem("b")}},
		{"TracksOk", impl.TracksOk, []any{tracks}},
		{"Concurrent", impl.Concurrent, []any{tracks[0], tracks[1]}},
		{"EdgeBegin", impl.EdgeBegin, []any{tracks, 4, 6}},
		{"EdgeRead", impl.EdgeRead, []any{tracks, 2, spanOf(3, 6)}},
		{"EdgeWrite", impl.EdgeWrite, []any{tracks, 2, textItem("c")}},
		{"EdgeEnd", impl.EdgeEnd, []any{tracks, 2, 6, true}},
		{"DeedsOk", impl.DeedsOk, []any{ring}},
		{"GraphEdges", impl.GraphEdges, []any{ring}},
		{"GraphOrder", impl.GraphOrder, []any{ring[:1]}},
		{"GraphRing", impl.GraphRing, []any{ring}},
		{"GraphSerial", impl.GraphSerial, []any{ring[1:], []int{0}}},
	}
}

func callsOfScripts(t *testing.T) []functionCall {
	t.Helper()
	ops := storeOps(t, "order 0\nput 0 ta t40*a\nput 0 tb f1.5\ncommit 0\nevict 0\nbegin 1\norder 2\nput 1 ta tc\nput 2 ta td\nscan 2 ta tz 9\ntotal 1 ta tz\nabort 1\nvacuum\ncheckpoint\nfuse 3\nput 2 tc te\ncommit 2\ncrash 101\norder 0\nget 0 ta\nput 0 ta tf")
	reply := impl.Reply{Seat: 1, Kind: opScan, Code: rpNone, N: 7, Value: textItem("value"), Rows: []impl.Pair{{Key: textItem("a"), Value: intItem(5)}, {Key: intItem(1)}}, Total: math.Inf(1)}
	return []functionCall{
		{"OpOk", impl.OpOk, []any{ops[1]}},
		{"LiveRun", impl.LiveRun, []any{ops}},
		{"ControlBytes", impl.ControlBytes, []any{heldControl()}},
		{"ControlRead", impl.ControlRead, []any{plainControl(heldControl())}},
		{"StoreOpen", impl.StoreOpen, []any{heldDisk()}},
		{"StoreRun", impl.StoreRun, []any{ops}},
		{"ItemText", impl.ItemText, []any{textItem("value")}},
		{"ItemRead", impl.ItemRead, []any{[]byte("t617e")}},
		{"OpText", impl.OpText, []any{ops[1]}},
		{"OpRead", impl.OpRead, []any{[]byte("put 5 t617e f3ff0000000000000")}},
		{"ReplyText", impl.ReplyText, []any{reply}},
		{"RunText", impl.RunText, []any{[]byte(textOfOps(ops) + "\nno op\n")}},
	}
}
