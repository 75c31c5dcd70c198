package tests

import (
	"encoding/binary"
	"fmt"
	"go/ast"
	"go/parser"
	"go/token"
	"math"
	"path/filepath"
	"reflect"
	"slices"
	"strings"
	"testing"

	"loop.example/g00252/impl"
)

// isZeroWord is whether an expression is a zero value that is written out.
func isZeroWord(e ast.Expr) bool {
	switch x := e.(type) {
	case *ast.Ident:
		return x.Name == "nil" || x.Name == "false"
	case *ast.BasicLit:
		return x.Value == "0"
	case *ast.CompositeLit:
		return len(x.Elts) == 0
	}
	return false
}

// hasEmptyBody is whether a function does nothing, or nothing but to answer zero values.
func hasEmptyBody(f *ast.FuncDecl) bool {
	if len(f.Body.List) == 0 {
		return true
	}
	r, isReturn := f.Body.List[0].(*ast.ReturnStmt)
	return isReturn && !slices.ContainsFunc(r.Results, func(e ast.Expr) bool { return !isZeroWord(e) })
}

func TestNoFunctionStandsWithAnEmptyBody(t *testing.T) {
	files, err := filepath.Glob("../impl/*.go")
	if err != nil || len(files) != 18 {
		t.Fatalf("the files are %v, %v", files, err)
	}
	var names []string
	for _, file := range files {
		f, err := parser.ParseFile(token.NewFileSet(), file, nil, parser.SkipObjectResolution)
		if err != nil {
			t.Fatal(err)
		}
		for _, d := range f.Decls {
			of, isFunction := d.(*ast.FuncDecl)
			if !isFunction || of.Recv != nil || !of.Name.IsExported() {
				continue
			}
			names = append(names, of.Name.Name)
			if hasEmptyBody(of) {
				t.Errorf("%s stands with an empty body", of.Name.Name)
			}
		}
	}
	var want []string
	for _, c := range allCalls(t) {
		want = append(want, c.name)
	}
	slices.Sort(names)
	slices.Sort(want)
	if !slices.Equal(names, want) {
		t.Errorf("the functions are %v, want %v", names, want)
	}
}

// addTold tells a value in full, so that it can be held against another. Where isWhole is set the room behind each list
// is told too, and the bits of each NaN; else all NaNs are one, as are nil and an empty list.
func addTold(told []byte, v reflect.Value, isWhole bool) []byte {
	switch v.Kind() {
	case reflect.Bool:
		return append(told, byte(oneIf(v.Bool())))
	case reflect.Int:
		return binary.AppendVarint(told, v.Int())
	case reflect.Uint8, reflect.Uint64:
		return binary.AppendUvarint(told, v.Uint())
	case reflect.Float64:
		bits := math.Float64bits(v.Float())
		if !isWhole && v.Float() != v.Float() {
			bits = oneNaN
		}
		return binary.AppendUvarint(told, bits)
	case reflect.Slice:
		told = binary.AppendVarint(told, int64(v.Len()))
		if isWhole {
			v = v.Slice(0, v.Cap())
		}
		if v.Type().Elem().Kind() == reflect.Uint8 {
			return append(told, v.Bytes()...)
		}
		for i := range v.Len() {
			told = addTold(told, v.Index(i), isWhole)
		}
	case reflect.Array:
		for i := range v.Len() {
			told = addTold(told, v.Index(i), isWhole)
		}
	case reflect.Struct:
		for i := range v.NumField() {
			told = addTold(told, v.Field(i), isWhole)
		}
	default:
		panic(v.Kind().String() + " is not told")
	}
	return told
}

func toldOf(l []reflect.Value, isWhole bool) string {
	var told []byte
	for _, v := range l {
		told = addTold(told, v, isWhole)
	}
	return string(told)
}

// clonedWith is a copy of a value in memory of its own; behind each list in it is room for so many more, filled with what its
// last element is, or with zero.
func clonedWith(v reflect.Value, room int) reflect.Value {
	c := reflect.New(v.Type()).Elem()
	switch v.Kind() {
	case reflect.Slice:
		whole := reflect.MakeSlice(v.Type(), v.Len()+room, v.Len()+room)
		first := 0
		if !holdsLists(v.Type().Elem()) {
			first = reflect.Copy(whole, v)
		}
		for i := first; i < whole.Len() && v.Len() > 0; i++ {
			whole.Index(i).Set(clonedWith(v.Index(min(i, v.Len()-1)), room))
		}
		c.Set(whole.Slice(0, v.Len()))
	case reflect.Struct:
		for i := range v.NumField() {
			c.Field(i).Set(clonedWith(v.Field(i), room))
		}
	default:
		c.Set(v)
	}
	return c
}

func holdsLists(of reflect.Type) bool {
	return of.Kind() == reflect.Slice || of.Kind() == reflect.Struct
}

func clonedAll(l []reflect.Value, room int) []reflect.Value {
	var c []reflect.Value
	for _, v := range l {
		c = append(c, clonedWith(v, room))
	}
	return c
}

// argumentPool has values of many types, right ones and wrong ones, to be taken as arguments or as parts of them.
type argumentPool map[reflect.Type][]reflect.Value

func addTo[V any](p argumentPool, values ...V) {
	for _, v := range values {
		of := reflect.ValueOf(v)
		p[of.Type()] = append(p[of.Type()], of)
	}
}

func edgesOfLimits() []int {
	l := []int{math.MinInt, math.MinInt + 1, -1 << 32, -65536, -256, -2, 1 << 31, 1<<32 - 1, 1 << 32, 1<<32 + 1, 1 << 62, math.MaxInt - 1, math.MaxInt}
	for _, n := range []int{0, 8, 13, 16, 40, 50, 59, 64, 92, 100, 134, 198, 200, 240, 256, 300, 400, 512, 600, 1000, 3776, 20000, 65536, 1000000} {
		l = append(l, n-1, n, n+1)
	}
	return slices.Concat(l, upTo(-1, 20), upTo(0, 9), upTo(0, 9), upTo(0, 3), upTo(0, 3))
}

func bytesOfAllKinds() [][]byte {
	l := [][]byte{nil, {}, {0}, []byte("123456789"), make([]byte, 64), make([]byte, 256), make([]byte, 65536), make([]byte, 65537), someBytes(256, 4), someBytes(1000, 5), someBytes(1001, 6), plainFrame(9, someBytes(1000, 7)), plainFrame(5, nil)}
	for _, a := range slices.Concat(someKeys(), rightValues()) {
		l = append(l, impl.KeyBytes(a), impl.ValueBytes(a), impl.ItemText(a), a.T)
	}
	for i, r := range rightRecords() {
		if i%40 == 0 {
			l = append(l, plainRecord(r), plainLog([]impl.Record{r, r}), r.Data)
		}
	}
	for _, of := range slices.Concat(rightPages(), wrongPages()) {
		l = append(l, impl.PageBytes(of.p))
	}
	for _, of := range rightTuples()[:20] {
		l = append(l, impl.TupleBytes(of))
	}
	for _, n := range []int{0, 1, 2, 5, 9, 400, 401} {
		l = append(l, plainStatusBytes(someStatuses(n, 3)), impl.StatusBytes(sameOf(n, done)))
	}
	for _, c := range slices.Concat(rightControls(), wrongControls()) {
		l = append(l, plainControl(c))
	}
	for _, of := range textsOfOps() {
		l = append(l, []byte(of.text))
	}
	for _, line := range noOps() {
		l = append(l, []byte(line))
	}
	l = append(l, plainLog(someLog(7, 3)), []byte(times("begin 0 0\nput 0 i1 i1\ncommit 0\n", 70)), []byte(times("\n", mostScript)), []byte(times("\n", mostScript+1)))
	textsOfStores(1, func(name string, text string) { l = append(l, []byte(text)) })
	return l
}

func addRightAndWrong(p argumentPool) {
	for _, of := range slices.Concat(wrongDisks(), rightDisks()) {
		addTo(p, of.d)
	}
	for i, of := range memoryStoreDisks() {
		addTo(p, of.d)
		if s, code := impl.StoreOpen(of.d); code == storeWell && i%3 == 0 {
			addTo(p, s.Db.Heap)
			addTo(p, s.Db.Tree)
		}
	}
	for _, of := range wrongRecords() {
		addTo(p, of.r)
	}
	for _, of := range wrongTuples() {
		addTo(p, of.t)
	}
	for _, of := range slices.Concat(rightPages(), wrongPages(), brokenPages()) {
		addTo(p, of.p)
	}
	for _, of := range slices.Concat(rightSnaps(), wrongSnaps()) {
		addTo(p, of.s)
	}
	for _, of := range slices.Concat(rightHeaps(), wrongHeaps(), brokenHeaps()) {
		addTo(p, of.h)
	}
	for _, of := range slices.Concat(rightTrees(), wrongTrees(), brokenTrees()) {
		addTo(p, of.t)
	}
	for _, of := range slices.Concat(rightWaits(), wrongWaits()) {
		addTo(p, of.l)
	}
	for _, of := range slices.Concat(rightTracks(), wrongTracks()) {
		addTo(p, of.l)
		addTo(p, of.l...)
	}
	for _, of := range slices.Concat(rightDeeds(), wrongDeeds()) {
		addTo(p, of.l)
	}
}

func somePool(t *testing.T) argumentPool {
	t.Helper()
	p := argumentPool{}
	addTo(p, edgesOfLimits()...)
	addTo(p, true, false)
	addTo(p, 0, 1, oneNaN, signBit, infBits, lastRank, lastRank-1, midRank, midRank-1, midRank+1)
	addTo(p, plusBits()...)
	addTo(p, strangeNaNs()...)
	addTo(p, append(rising(), minusNought(), math.NaN(), math.Float64frombits(signBit|infBits+1))...)
	addTo(p, slices.Concat(risingItems(), rightValues(), someKeys(), someKeys(), wrongItems())...)
	addTo(p, bytesOfAllKinds()...)
	addTo(p, rightRecords()...)
	addTo(p, rightTuples()...)
	addTo(p, nil, []int{0}, sameOf(401, done), sameOf(402, done), someStatuses(401, 3), someNumbers(401, 4), upTo(0, 9), upTo(1, 400), []int{1, 0})
	addTo(p, someLog(7, 1), someLog(3, 999999), fullLog(1), heldLog())
	addTo(p, slices.Concat(rightControls(), wrongControls())...)
	addTo(p, slices.Concat(rightOps(), badOps())...)
	for _, of := range textsOfOps() {
		addTo(p, of.o, filled(of.o))
	}
	for i, d := range storeKinds() {
		addTo(p, drawStoreOps(d, uint64(i)), drawStoreOps(d, uint64(i)+50))
	}
	addTo(p, make([]impl.Op, mostOps+1))
	addRightAndWrong(p)
	return p
}

// draw is a value of a type: one of the pool, or one put together of drawn parts; the seed fixes it.
func (p argumentPool) draw(of reflect.Type, seed uint64) reflect.Value {
	x := someBits(3, seed)
	isPlain := of.Kind() != reflect.Struct && of.Kind() != reflect.Slice
	if l := p[of]; len(l) > 0 && (isPlain || x[0]>>20%8 > 0) {
		return l[int(x[1]>>20%uint64(len(l)))]
	}
	v := reflect.New(of).Elem()
	switch of.Kind() {
	case reflect.Slice:
		counts := []int{0, 1, 2, 3, 4, 5, 7, 9, 16, 17, 41, 65}
		for i := range counts[int(x[2]>>20)%len(counts)] {
			v = reflect.Append(v, p.draw(of.Elem(), x[1]+uint64(i)))
		}
	case reflect.Struct:
		for i := range of.NumField() {
			v.Field(i).Set(p.draw(of.Field(i).Type, x[2]+uint64(i)))
		}
	}
	return v
}

// calledWith calls a function, and tells of a panic as a failure of the test.
func calledWith(t *testing.T, name string, f any, arguments []reflect.Value) []reflect.Value {
	t.Helper()
	var answers []reflect.Value
	quiet(t, name, func() { answers = reflect.ValueOf(f).Call(arguments) })
	return answers
}

func valuesOf(l []reflect.Value) []any {
	var values []any
	for _, v := range l {
		values = append(values, v.Interface())
	}
	return values
}

// wantWellCalled calls a function more than once, with room behind all lists and without: nothing is written there, all
// answers are alike, and none shares memory with an argument, nor with another one.
func wantWellCalled(t *testing.T, name string, f any, drawn []reflect.Value) {
	t.Helper()
	guarded := clonedAll(drawn, 2)
	before := toldOf(guarded, true)
	first := calledWith(t, name, f, guarded)
	if toldOf(guarded, true) != before {
		t.Errorf("%s: wrote into an argument or behind it", name)
	}
	told := toldOf(first, false)
	second := calledWith(t, name, f, drawn)
	if toldOf(second, false) != told {
		t.Errorf("%s: room behind a list shows", name)
	}
	wantNoneShared(t, name, slices.Concat(valuesOf(first), valuesOf(second), valuesOf(guarded))...)
	if again := calledWith(t, name, f, guarded); toldOf(again, false) != told || toldOf(first, false) != told {
		t.Errorf("%s: answers differ", name)
	}
}

// Where the arguments are as a chapter wants them something is told.
func TestAllFunctionsAnswerSomething(t *testing.T) {
	for _, c := range allCalls(t) {
		var zero []reflect.Value
		for i := range reflect.TypeOf(c.f).NumOut() {
			zero = append(zero, reflect.Zero(reflect.TypeOf(c.f).Out(i)))
		}
		if told := toldOf(calledWith(t, c.name, c.f, c.arguments()), false); told == toldOf(zero, false) {
			t.Errorf("%s answers zero values", c.name)
		}
		wantWellCalled(t, c.name, c.f, c.arguments())
	}
}

func TestAllFunctionsAtTheirZeroValues(t *testing.T) {
	for _, c := range allCalls(t) {
		wantWellCalled(t, c.name+" of zero values", c.f, c.zeros())
		for i := range c.good {
			arguments := c.arguments()
			arguments[i] = c.zeros()[i]
			wantWellCalled(t, fmt.Sprint(c.name, ", argument ", i, " being zero"), c.f, arguments)
		}
	}
}

// Each argument by itself at each value of the pool, all others being right ones, or zero values.
func TestAllFunctionsAtTheirLimits(t *testing.T) {
	t.Parallel()
	p := somePool(t)
	for _, c := range allCalls(t) {
		for i := range c.good {
			for k, v := range p[reflect.TypeOf(c.f).In(i)] {
				name := fmt.Sprint(c.name, ", argument ", i, " being value ", k)
				for _, arguments := range [][]reflect.Value{c.arguments(), c.zeros()} {
					arguments[i] = v
					calledWith(t, name, c.f, arguments)
				}
			}
		}
	}
}

// Lists of so many elements that no limit takes them.
func TestAllFunctionsFarBeyondTheirLimits(t *testing.T) {
	for _, c := range allCalls(t) {
		for i := range c.good {
			for _, arguments := range [][]reflect.Value{c.arguments(), c.zeros()} {
				if holdsLists(arguments[i].Type()) {
					arguments[i] = manyOf(arguments[i].Type(), 100000)
					calledWith(t, c.name+" of very many", c.f, arguments)
				}
			}
		}
	}
}

// manyOf has lists of so many zero values, in itself or in its fields.
func manyOf(of reflect.Type, n int) reflect.Value {
	v := reflect.New(of).Elem()
	switch of.Kind() {
	case reflect.Slice:
		v.Set(reflect.MakeSlice(of, n, n))
	case reflect.Struct:
		for i := range of.NumField() {
			v.Field(i).Set(manyOf(of.Field(i).Type, n))
		}
	}
	return v
}

// Arguments that are right ones, but for some that are drawn.
func TestPromise23(t *testing.T) {
	t.Parallel()
	p := somePool(t)
	for k, c := range allCalls(t) {
		n := 120
		if strings.HasSuffix(c.name, "Run") || c.name == "RunText" || c.name == "StoreOpen" {
			n = 60
		}
		for seed := range n {
			arguments := c.arguments()
			for i, x := range someBits(len(c.good), uint64(k*100000+seed)) {
				if seed%3 == 0 || x>>30%uint64(len(c.good)) == 0 {
					arguments[i] = p.draw(arguments[i].Type(), x)
				}
			}
			wantWellCalled(t, fmt.Sprint(c.name, ", seed ", seed), c.f, arguments)
		}
	}
}
