package op

import (
	"fmt"
	"math"
	"slices"
	"strings"
	"sync"
	"testing"
	"unsafe"

	"drayman/api"
)

// chapter answers which of S (a slot), D (data), A and B (paths) the operations of a kind have, as the chapter words it.
func chapter() map[int]string {
	return map[int]string{1: "A", 2: "AB", 3: "SAB", 4: "DA", 5: "AB", 6: "AB", 7: "SA", 8: "A", 9: "SA", 10: "SA"}
}

// plain tells, of chapter 3's words alone, whether the path is plain, and not /.
func plain(p string) bool {
	if p == "" || p[0] != '/' {
		return false
	}
	for _, name := range strings.Split(p[1:], "/") {
		if name == "" || name == "." || name == ".." || len(name) > 255 || strings.Contains(name, "\x00") {
			return false
		}
	}
	return true
}

// straight tells, of the chapter's words alone, whether the operation may be.
func straight(o api.Op) bool {
	has, ok := chapter()[o.Kind]
	if !ok {
		return false
	}
	if strings.Contains(has, "S") {
		ok = ok && 1 <= o.Slot && o.Slot <= 1<<30
	} else {
		ok = ok && o.Slot == 0
	}
	if strings.Contains(has, "D") {
		ok = ok && 1 <= len(o.Data) && len(o.Data) <= 4095 && !strings.Contains(o.Data, "\x00")
	} else {
		ok = ok && o.Data == ""
	}
	if strings.Contains(has, "A") {
		ok = ok && plain(o.A)
	} else {
		ok = ok && o.A == ""
	}
	if strings.Contains(has, "B") {
		ok = ok && plain(o.B)
	} else {
		ok = ok && o.B == ""
	}
	if o.Kind == 6 {
		ok = ok && !strings.HasPrefix(o.A+"/", o.B+"/") && !strings.HasPrefix(o.B+"/", o.A+"/")
	}
	return ok
}

// straightPlan tells, of the chapter's words alone, whether the operations are a plan.
func straightPlan(l []api.Op) bool {
	last := 0
	for _, o := range l {
		if !straight(o) || o.Kind > 7 {
			return false
		}
		if o.Kind == 3 || o.Kind == 7 {
			if o.Slot <= last {
				return false
			}
			last = o.Slot
		}
	}
	return true
}

// straightUndo tells, of the chapter's words alone, whether the operations are an undo plan.
func straightUndo(l []api.Op) bool {
	last := math.MaxInt
	for _, o := range l {
		if !straight(o) || o.Kind < 6 || o.Kind == 7 {
			return false
		}
		if o.Kind == 9 || o.Kind == 10 {
			if o.Slot >= last {
				return false
			}
			last = o.Slot
		}
	}
	return true
}

// straightSlots answers, of the chapter's words alone, the operations' slots.
func straightSlots(l []api.Op) []int {
	var slots []int
	for _, o := range l {
		switch o.Kind {
		case 3, 7, 9, 10:
			slots = append(slots, o.Slot)
		}
	}
	return slots
}

// whole answers an operation of the kind with all that it has.
func whole(kind int) api.Op {
	o := api.Op{Kind: kind}
	for _, field := range chapter()[kind] {
		switch field {
		case 'S':
			o.Slot = 1
		case 'D':
			o.Data = "t"
		case 'A':
			o.A = "/a"
		case 'B':
			o.B = "/b"
		}
	}
	return o
}

// none answers kinds that are none.
func none() []int {
	return []int{math.MinInt, math.MinInt + 1, math.MinInt32, -1 << 32, -256, -11, -10, -7, -6, -1, 0, 11, 12, 17, 255, 256, 257, 256 + 6, 1 << 16, 1 << 31, 1 << 32, 1<<32 + 1, 1<<32 + 6, math.MaxInt - 1, math.MaxInt}
}

func kindsAll() []int {
	all := none()
	for kind := 1; kind <= 10; kind++ {
		all = append(all, kind)
	}
	return all
}

func slots() []int {
	return []int{math.MinInt, math.MinInt + 1, -1 << 32, -1 << 30, -2, -1, 0, 1, 2, 3, 1<<30 - 1, 1 << 30, 1<<30 + 1, 1 << 31, 1 << 32, 1<<32 + 1, 1<<62 + 1, math.MaxInt - 1, math.MaxInt}
}

// paths answers paths, plain ones and others.
func paths() []string {
	return []string{
		"/a", "/b", "/a/b", "/a/b/c", "/ab", "/a.", "/.a", "/...", "/a b", "/\xff", "/\x01", "/a/..b", `/"`, "/-",
		"", "/", "//", "///", ".", "..", "a", "a/b", "./a", "/.", "/..", "/a/.", "/a/..", "/./a", "/../a", "/a/./b", "/a/../b",
		"//a", "/a//b", "/a/", "/a//", "/a/b/", "a/", "\x00", "/\x00", "/a\x00", "/\x00a", "/a/b\x00c", "/a\x00/b", " /a",
	}
}

// longPaths answers paths of long names, and long paths.
func longPaths() []string {
	name := strings.Repeat("n", 255)
	return []string{
		"/" + name, "/" + name + "n", "/a/" + name, "/a/" + name + "n", "/" + name + "/a", "/" + name + "n/a", "/a/" + name + "n/b",
		"/" + name[1:] + "\x00", "/" + name + "/", name, strings.Repeat("/"+name, 15), strings.Repeat("/"+name, 16), strings.Repeat("/"+name, 17),
		strings.Repeat("/n", 2047), strings.Repeat("/n", 2048), strings.Repeat("/n", 5000), strings.Repeat("/n", 5000) + "/", strings.Repeat("/n", 5000) + "/..",
	}
}

// data answers links' targets, those that may be and others.
func data() []string {
	long := strings.Repeat("t", 4096)
	return []string{
		"", "t", "/", "//", ".", "..", "../a/", "a b", "\x01", "\xff", "\n", long[:4094], long[:4095], long, long + long,
		"\x00", "\x00t", "t\x00", "t\x00t", long[:4094] + "\x00", "\x00" + long[:4094], long[:4095] + "\x00", long[:2000] + "\x00" + long[:2000],
		strings.Repeat("é", 2047), strings.Repeat("é", 2047) + "t", strings.Repeat("é", 2048), strings.Repeat("/", 4095), strings.Repeat("/", 4096), strings.Repeat("t", 1<<20),
	}
}

// expect asks May about an operation.
func expect(t *testing.T, want bool, o api.Op) {
	t.Helper()
	if got := May(o); got != want {
		t.Errorf("May(%.300q): %t", fmt.Sprint(o), got)
	}
}

// hold asks May about an operation, and holds the answer against the chapter's words.
func hold(t *testing.T, o api.Op) {
	t.Helper()
	expect(t, straight(o), o)
}

// P19.1: May

func TestWholeOperations(t *testing.T) {
	if len(chapter()) != api.MaxOp {
		t.Fatalf("%d kinds, for %d numbers", len(chapter()), api.MaxOp)
	}
	for _, o := range []api.Op{
		{Kind: api.OpMkdir, A: "/a"},
		{Kind: api.OpCopy, A: "/a", B: "/b"},
		{Kind: api.OpWrite, Slot: 1, A: "/a", B: "/b"},
		{Kind: api.OpSym, Data: "t", A: "/a"},
		{Kind: api.OpLink, A: "/a", B: "/b"},
		{Kind: api.OpMove, A: "/a", B: "/b"},
		{Kind: api.OpStash, Slot: 1, A: "/a"},
		{Kind: api.OpErase, A: "/a"},
		{Kind: api.OpReturn, Slot: 1, A: "/a"},
		{Kind: api.OpRestore, Slot: 1, A: "/a"},
	} {
		expect(t, true, o)
		if o != whole(o.Kind) {
			t.Errorf("%v isn't %v", o, whole(o.Kind))
		}
	}
}

func TestWhatAKindHasnt(t *testing.T) {
	for kind, has := range chapter() {
		for _, slot := range slots() {
			o := whole(kind)
			o.Slot = slot
			if !strings.Contains(has, "S") {
				expect(t, slot == 0, o)
			}
		}
		for _, s := range append(append(paths(), longPaths()...), data()...) {
			o := whole(kind)
			o.A = s
			if !strings.Contains(has, "A") {
				expect(t, s == "", o)
			}
			o = whole(kind)
			o.B = s
			if !strings.Contains(has, "B") {
				expect(t, s == "", o)
			}
			o = whole(kind)
			o.Data = s
			if !strings.Contains(has, "D") {
				expect(t, s == "", o)
			}
		}
	}
}

func TestWhatAKindHasLeftOut(t *testing.T) {
	for kind, has := range chapter() {
		for _, field := range has {
			o := whole(kind)
			switch field {
			case 'S':
				o.Slot = 0
			case 'D':
				o.Data = ""
			case 'A':
				o.A = ""
			case 'B':
				o.B = ""
			}
			expect(t, false, o)
		}
		expect(t, false, api.Op{Kind: kind})
	}
}

func TestKindsThatAreNone(t *testing.T) {
	for _, kind := range none() {
		expect(t, false, api.Op{Kind: kind})
		for right := 1; right <= 10; right++ {
			o := whole(right)
			o.Kind = kind
			expect(t, false, o)
		}
		expect(t, false, api.Op{Kind: kind, Slot: 1, A: "/a", B: "/b", Data: "t"})
	}
	for kind := -300; kind <= 300; kind++ {
		expect(t, kind >= 1 && kind <= 10, whole(kind))
	}
}

func TestSlotsThatMayBe(t *testing.T) {
	for kind, has := range chapter() {
		if !strings.Contains(has, "S") {
			continue
		}
		for _, slot := range slots() {
			o := whole(kind)
			o.Slot = slot
			expect(t, slot >= 1 && slot <= 1<<30, o)
		}
	}
}

func TestPathsThatMayBe(t *testing.T) {
	right := 0
	for kind, has := range chapter() {
		for _, p := range append(paths(), longPaths()...) {
			o := whole(kind)
			o.A, o.B = p, strings.Replace(o.B, "/b", "/other", 1)
			expect(t, plain(p), o)
			if strings.Contains(has, "B") {
				o.A, o.B = "/other", p
				expect(t, plain(p), o)
			}
			if plain(p) {
				right++
			}
		}
	}
	if right == 0 {
		t.Error("no path was plain")
	}
}

func TestPathsByName(t *testing.T) {
	name := strings.Repeat("n", 255)
	for _, p := range []string{"/a", "/a/b", "/...", "/.a", "/a b", "/" + name, "/a/" + name} {
		expect(t, true, api.Op{Kind: api.OpErase, A: p})
	}
	for _, p := range []string{"", "/", "a", "a/b", "/.", "/..", "/a/./b", "/a/..", "//a", "/a//b", "/a/", "/a\x00", "/\x00", "/" + name + "n", "/a/" + name + "n/b"} {
		expect(t, false, api.Op{Kind: api.OpErase, A: p})
		expect(t, false, api.Op{Kind: api.OpLink, A: "/x", B: p})
		expect(t, false, api.Op{Kind: api.OpLink, A: p, B: "/x"})
	}
}

func TestEachByteInAName(t *testing.T) {
	for i := range 256 {
		one := string([]byte{byte(i)})
		expect(t, i != 0 && i != '/' && i != '.', api.Op{Kind: api.OpMkdir, A: "/" + one})
		expect(t, i != 0, api.Op{Kind: api.OpMkdir, A: "/a" + one + "b"})
		expect(t, i != 0, api.Op{Kind: api.OpSym, A: "/a", Data: one})
		expect(t, i != 0, api.Op{Kind: api.OpSym, A: "/a", Data: "a" + one + "b"})
	}
}

func TestTargets(t *testing.T) {
	for _, d := range data() {
		expect(t, d != "" && len(d) <= 4095 && !strings.Contains(d, "\x00"), api.Op{Kind: api.OpSym, A: "/a", Data: d})
	}
	for many := range 4200 {
		expect(t, many >= 1 && many <= 4095, api.Op{Kind: api.OpSym, A: "/a", Data: strings.Repeat("t", many)})
	}
}

func TestMoves(t *testing.T) {
	for _, x := range []struct {
		a, b string
		may  bool
	}{
		{"/a", "/a", false}, {"/a", "/a/b", false}, {"/a", "/a/b/c", false}, {"/a/b", "/a", false}, {"/a/b/c", "/a", false}, {"/a/b", "/a/b", false},
		{"/a", "/ab", true}, {"/ab", "/a", true}, {"/a/b", "/a/bc", true}, {"/a/bc", "/a/b", true}, {"/a/b", "/ab", true}, {"/ab", "/a/b", true},
		{"/a", "/b/a", true}, {"/b/a", "/a", true}, {"/a/b", "/a/c", true}, {"/a/b", "/b/a", true}, {"/a", "/a.", true}, {"/a", "/a\x01", true}, {"/a", "/a0", true},
		{"/a", "/", false}, {"/", "/a", false}, {"/", "/", false}, {"/a", "/a/", false}, {"/a", "", false}, {"", "/a", false}, {"", "", false},
	} {
		expect(t, x.may, api.Op{Kind: api.OpMove, A: x.a, B: x.b})
	}
	long := strings.Repeat("/n", 3000)
	expect(t, false, api.Op{Kind: api.OpMove, A: long, B: long})
	expect(t, false, api.Op{Kind: api.OpMove, A: long, B: long + "/m"})
	expect(t, false, api.Op{Kind: api.OpMove, A: long + "/m", B: long})
	expect(t, true, api.Op{Kind: api.OpMove, A: long + "m", B: long})
	expect(t, true, api.Op{Kind: api.OpMove, A: long, B: long + "m"})
}

func TestOthersThanMovesAskNothingOfTwoPaths(t *testing.T) {
	for _, kind := range []int{api.OpCopy, api.OpWrite, api.OpLink} {
		for _, x := range [][2]string{{"/a", "/a"}, {"/a", "/a/b"}, {"/a/b", "/a"}, {"/a", "/ab"}} {
			o := whole(kind)
			o.A, o.B = x[0], x[1]
			expect(t, true, o)
		}
	}
}

func TestMayOfEverything(t *testing.T) {
	texts := []string{"", "/", "/a", "/a/b", "/ab", "/b", "a", "/a/", "//a", "/.", "/a\x00", "\x00", "t"}
	right := map[int]int{}
	for _, kind := range kindsAll() {
		for _, slot := range []int{math.MinInt, -1, 0, 1, 2, 1 << 30, 1<<30 + 1, math.MaxInt} {
			for _, a := range texts {
				for _, b := range texts {
					for _, d := range texts {
						o := api.Op{Kind: kind, Slot: slot, A: a, B: b, Data: d}
						hold(t, o)
						if straight(o) {
							right[kind]++
						}
					}
				}
			}
		}
	}
	if len(right) != api.MaxOp {
		t.Errorf("operations that may be of %d kinds", len(right))
	}
}

func TestMayOfEachTwoPaths(t *testing.T) {
	all := append(paths(), longPaths()...)
	for _, kind := range kindsAll() {
		for _, a := range all {
			for _, b := range all {
				o := whole(kind)
				o.A, o.B = a, b
				hold(t, o)
			}
		}
	}
}

// P19.1: Plan, Undo

// holdPlans asks Plan, Undo and Slots about operations, and holds the answers against the chapter's words.
func holdPlans(t *testing.T, l []api.Op) {
	t.Helper()
	if got := Plan(l); got != straightPlan(l) {
		t.Errorf("Plan(%.300q): %t", fmt.Sprint(l), got)
	}
	if got := Undo(l); got != straightUndo(l) {
		t.Errorf("Undo(%.300q): %t", fmt.Sprint(l), got)
	}
	if got := Slots(l); !slices.Equal(got, straightSlots(l)) {
		t.Errorf("Slots(%.300q): %v", fmt.Sprint(l), got)
	}
}

// stashes and returns answer operations of those slots.
func stashes(slots ...int) (l []api.Op) {
	for _, slot := range slots {
		l = append(l, api.Op{Kind: api.OpStash, Slot: slot, A: "/a"})
	}
	return l
}

func returns(slots ...int) (l []api.Op) {
	for _, slot := range slots {
		l = append(l, api.Op{Kind: api.OpReturn, Slot: slot, A: "/a"})
	}
	return l
}

func TestChaptersExamples(t *testing.T) {
	plan := []api.Op{{Kind: api.OpStash, Slot: 1, A: "/a"}, {Kind: api.OpStash, Slot: 2, A: "/b"}}
	undo := []api.Op{{Kind: api.OpReturn, Slot: 2, A: "/b"}, {Kind: api.OpReturn, Slot: 1, A: "/a"}}
	if !Plan(plan) || Undo(plan) {
		t.Errorf("Plan and Undo of %v: %t, %t", plan, Plan(plan), Undo(plan))
	}
	if Plan(undo) || !Undo(undo) {
		t.Errorf("Plan and Undo of %v: %t, %t", undo, Plan(undo), Undo(undo))
	}
}

func TestEmptyLists(t *testing.T) {
	for _, l := range [][]api.Op{nil, {}, make([]api.Op, 0, 3)} {
		if !Plan(l) || !Undo(l) {
			t.Errorf("Plan and Undo of no operations: %t, %t", Plan(l), Undo(l))
		}
		if got := Slots(l); len(got) != 0 {
			t.Errorf("Slots of no operations: %v", got)
		}
	}
}

func TestEachKindAlone(t *testing.T) {
	for kind := 1; kind <= 10; kind++ {
		l := []api.Op{whole(kind)}
		if got, want := Plan(l), kind <= 7; got != want {
			t.Errorf("Plan of the kind %d: %t", kind, got)
		}
		if got, want := Undo(l), kind == 6 || kind >= 8; got != want {
			t.Errorf("Undo of the kind %d: %t", kind, got)
		}
		holdPlans(t, l)
	}
	for _, kind := range none() {
		for right := 1; right <= 10; right++ {
			o := whole(right)
			o.Kind = kind
			if l := []api.Op{o}; Plan(l) || Undo(l) {
				t.Errorf("Plan and Undo of the kind %d: %t, %t", kind, Plan(l), Undo(l))
			}
		}
		if l := []api.Op{{Kind: kind}}; Plan(l) || Undo(l) {
			t.Errorf("Plan and Undo of the kind %d: %t, %t", kind, Plan(l), Undo(l))
		}
	}
}

func TestHowSlotsGo(t *testing.T) {
	for _, x := range []struct {
		slots []int
		plan  bool
		undo  bool
	}{
		{[]int{1}, true, true}, {[]int{1 << 30}, true, true},
		{[]int{1, 2}, true, false}, {[]int{2, 1}, false, true}, {[]int{1, 1}, false, false}, {[]int{1 << 30, 1 << 30}, false, false},
		{[]int{1, 1 << 30}, true, false}, {[]int{1 << 30, 1}, false, true},
		{[]int{1, 2, 3}, true, false}, {[]int{3, 2, 1}, false, true}, {[]int{5, 70, 71}, true, false}, {[]int{71, 70, 5}, false, true},
		{[]int{1, 3, 2}, false, false}, {[]int{2, 1, 3}, false, false}, {[]int{3, 1, 2}, false, false}, {[]int{2, 3, 1}, false, false},
		{[]int{1, 1, 2}, false, false}, {[]int{1, 2, 2}, false, false}, {[]int{2, 2, 1}, false, false}, {[]int{2, 1, 1}, false, false}, {[]int{1, 2, 1}, false, false}, {[]int{2, 1, 2}, false, false},
		{[]int{0}, false, false}, {[]int{1<<30 + 1}, false, false}, {[]int{0, 1}, false, false}, {[]int{1, 0}, false, false}, {[]int{-1, 1}, false, false}, {[]int{1, -1}, false, false},
		{[]int{1, 1<<30 + 1}, false, false}, {[]int{1<<30 + 1, 1}, false, false}, {[]int{math.MinInt, 1, math.MaxInt}, false, false}, {[]int{math.MaxInt, 1, math.MinInt}, false, false},
	} {
		if got := Plan(stashes(x.slots...)); got != x.plan {
			t.Errorf("Plan of stashes in %v: %t", x.slots, got)
		}
		if got := Undo(returns(x.slots...)); got != x.undo {
			t.Errorf("Undo of returns of %v: %t", x.slots, got)
		}
		if Undo(stashes(x.slots...)) || Plan(returns(x.slots...)) {
			t.Errorf("stashes in %v are an undo plan, or returns of them a plan", x.slots)
		}
	}
}

// between answers the list with an operation of each of the kinds ahead of each of its operations, and behind the last one.
func between(l []api.Op, kinds ...int) []api.Op {
	var out []api.Op
	for i := range len(l) + 1 {
		for _, kind := range kinds {
			out = append(out, whole(kind))
		}
		if i < len(l) {
			out = append(out, l[i])
		}
	}
	return out
}

func TestOthersBetweenSlots(t *testing.T) {
	for _, x := range [][]int{{}, {1}, {1, 2}, {2, 1}, {1, 1}, {1, 2, 3}, {3, 2, 1}, {1, 3, 2}, {2, 2, 3}, {3, 3, 2}} {
		rising, falling := between(stashes(x...), 1, 2, 4, 5, 6), between(returns(x...), 6, 8)
		if got, want := Plan(rising), straightPlan(stashes(x...)); got != want {
			t.Errorf("Plan of stashes in %v with others between them: %t", x, got)
		}
		if got, want := Undo(falling), straightUndo(returns(x...)); got != want {
			t.Errorf("Undo of returns of %v with others between them: %t", x, got)
		}
		holdPlans(t, rising)
		holdPlans(t, falling)
	}
}

func TestKindsWithSlotsRiseTogether(t *testing.T) {
	write := func(slot int) api.Op { return api.Op{Kind: api.OpWrite, Slot: slot, A: "/a", B: "/b"} }
	restore := func(slot int) api.Op { return api.Op{Kind: api.OpRestore, Slot: slot, A: "/a"} }
	for a := 1; a <= 3; a++ {
		for b := 1; b <= 3; b++ {
			for c := 1; c <= 3; c++ {
				stash, back := stashes(a, b, c), returns(a, b, c)
				for i, slot := range []int{a, b, c} {
					l, m := slices.Clone(stash), slices.Clone(back)
					l[i], m[i] = write(slot), restore(slot)
					if got := Plan(l); got != (a < b && b < c) {
						t.Errorf("Plan(%v): %t", l, got)
					}
					if got := Undo(m); got != (a > b && b > c) {
						t.Errorf("Undo(%v): %t", m, got)
					}
				}
			}
		}
	}
}

// wrong answers operations that may not be.
func wrong() []api.Op {
	all := []api.Op{{}, {Kind: 11, A: "/a"}, {Kind: -1, A: "/a"}, {Kind: math.MinInt}, {Kind: math.MaxInt}}
	for kind := 1; kind <= 10; kind++ {
		o := whole(kind)
		o.A = "/"
		all = append(all, o)
		o = whole(kind)
		o.Data += "\x00"
		all = append(all, o)
		if !strings.Contains(chapter()[kind], "S") {
			o = whole(kind)
			o.Slot = 7
			all = append(all, o)
		}
		if !strings.Contains(chapter()[kind], "B") {
			o = whole(kind)
			o.B = "/b"
			all = append(all, o)
		}
	}
	return append(all, api.Op{Kind: api.OpMove, A: "/a", B: "/a"}, api.Op{Kind: api.OpMove, A: "/a", B: "/a/b"})
}

func TestOneThatMayNotBe(t *testing.T) {
	plan, undo := between(stashes(5, 70), 1, 2, 4, 5, 6), between(returns(70, 5), 6, 8)
	if !Plan(plan) || !Undo(undo) {
		t.Fatalf("Plan and Undo of %v and %v: %t, %t", plan, undo, Plan(plan), Undo(undo))
	}
	for _, o := range wrong() {
		if straight(o) {
			t.Fatalf("%v may be", o)
		}
		for i := range len(plan) + 1 {
			if Plan(slices.Insert(slices.Clone(plan), i, o)) {
				t.Errorf("Plan with %q at %d: true", fmt.Sprint(o), i)
			}
		}
		for i := range len(undo) + 1 {
			if Undo(slices.Insert(slices.Clone(undo), i, o)) {
				t.Errorf("Undo with %q at %d: true", fmt.Sprint(o), i)
			}
		}
	}
}

func TestOneOfAnotherKind(t *testing.T) {
	plan, undo := between(stashes(5, 70), 1, 2, 4, 5, 6), between(returns(70, 5), 6, 8)
	for _, kind := range []int{8, 9, 10} {
		for i := range len(plan) + 1 {
			l := slices.Insert(slices.Clone(plan), i, whole(kind))
			if Plan(l) {
				t.Errorf("Plan with the kind %d at %d: true", kind, i)
			}
			holdPlans(t, l)
		}
	}
	for _, kind := range []int{1, 2, 3, 4, 5, 7} {
		for i := range len(undo) + 1 {
			l := slices.Insert(slices.Clone(undo), i, whole(kind))
			if Undo(l) {
				t.Errorf("Undo with the kind %d at %d: true", kind, i)
			}
			holdPlans(t, l)
		}
	}
}

// some answers operations of each kind, those with slots in two of them, and some that may not be.
func some() []api.Op {
	var all []api.Op
	for kind := 1; kind <= 10; kind++ {
		o := whole(kind)
		all = append(all, o)
		if o.Slot != 0 {
			o.Slot = 2
			all = append(all, o)
		}
	}
	return append(all, api.Op{}, api.Op{Kind: 7, A: "/a"}, api.Op{Kind: 11, Slot: 1, A: "/a"})
}

// lists hands out all lists of at most that many of the operations.
func lists(of []api.Op, most int, do func(l []api.Op)) {
	var grow func(l []api.Op)
	grow = func(l []api.Op) {
		do(l)
		if len(l) == most {
			return
		}
		for _, o := range of {
			grow(append(slices.Clip(l), o))
		}
	}
	grow(nil)
}

func TestAllShortLists(t *testing.T) {
	plans, undos, both := 0, 0, 0
	lists(some(), 4, func(l []api.Op) {
		holdPlans(t, l)
		if straightPlan(l) {
			plans++
		}
		if straightUndo(l) {
			undos++
		}
		if straightPlan(l) && straightUndo(l) {
			both++
		}
	})
	if plans == 0 || undos == 0 || both != 5 {
		t.Errorf("%d plans, %d undo plans, %d both", plans, undos, both)
	}
}

func TestLongLists(t *testing.T) {
	const many = 1 << 16
	var plan, undo []api.Op
	for i := range many {
		plan = append(plan, api.Op{Kind: api.OpStash, Slot: i + 1, A: "/a"}, whole(1+i%2))
		undo = append(undo, api.Op{Kind: api.OpRestore, Slot: many - i, A: "/a"}, whole(6+i%2*2))
	}
	holdPlans(t, plan)
	holdPlans(t, undo)
	if !Plan(plan) || !Undo(undo) {
		t.Errorf("Plan and Undo of long lists: %t, %t", Plan(plan), Undo(undo))
	}
	for _, at := range []int{0, many, 2*many - 2} {
		l := slices.Clone(plan)
		l[at].Slot = many/2 + many
		if at < 2*many-2 && Plan(l) {
			t.Errorf("Plan with too great a slot at %d: true", at)
		}
		holdPlans(t, l)
		l = slices.Clone(undo)
		l[at].Slot = many/2 + many
		if at > 0 && Undo(l) {
			t.Errorf("Undo with too great a slot at %d: true", at)
		}
		holdPlans(t, l)
	}
}

// P19.1: Slots

func TestSlotsOfEachKind(t *testing.T) {
	var all []api.Op
	for i, kind := range []int{1, 2, 3, 4, 5, 6, 7, 8, 9, 10} {
		all = append(all, api.Op{Kind: kind, Slot: 100 + i})
	}
	if got, want := Slots(all), []int{102, 106, 108, 109}; !slices.Equal(got, want) {
		t.Errorf("Slots: %v, not %v", got, want)
	}
	slices.Reverse(all)
	if got, want := Slots(all), []int{109, 108, 106, 102}; !slices.Equal(got, want) {
		t.Errorf("Slots: %v, not %v", got, want)
	}
}

func TestSlotsOfWhateverSlots(t *testing.T) {
	for _, kind := range kindsAll() {
		var l []api.Op
		for _, slot := range slots() {
			l = append(l, api.Op{Kind: kind, Slot: slot})
		}
		var want []int
		if strings.Contains(chapter()[kind], "S") {
			want = slots()
		}
		if got := Slots(l); !slices.Equal(got, want) {
			t.Errorf("Slots of the kind %d: %v", kind, got)
		}
	}
	l := []api.Op{{Kind: 7, Slot: 3}, {Kind: 7, Slot: 3}, {Kind: 9, Slot: 1}, {Kind: 3, Slot: 3}, {Kind: 1, Slot: 2}, {Kind: 10, Slot: 0}}
	if got, want := Slots(l), []int{3, 3, 1, 3, 0}; !slices.Equal(got, want) {
		t.Errorf("Slots: %v, not %v", got, want)
	}
}

// P19.1: Same

// expectSame asks Same about two lists, both ways round.
func expectSame(t *testing.T, want bool, a, b []api.Op) {
	t.Helper()
	if Same(a, b) != want || Same(b, a) != want {
		t.Errorf("Same(%.200q, %.200q): %t, %t", fmt.Sprint(a), fmt.Sprint(b), Same(a, b), Same(b, a))
	}
}

func TestSame(t *testing.T) {
	l := []api.Op{{Kind: 3, Slot: 4, A: "/a", B: "/b", Data: "d"}, {Kind: 7, Slot: 5, A: "/c"}, {Kind: 99, Slot: -1, A: "x", B: "\x00", Data: ""}}
	again := func() []api.Op { return slices.Clone(l) }
	expectSame(t, true, l, l)
	expectSame(t, true, l, again())
	expectSame(t, true, nil, nil)
	expectSame(t, true, nil, []api.Op{})
	expectSame(t, true, nil, l[:0])
	for i := range l {
		for _, change := range []func(o *api.Op){
			func(o *api.Op) { o.Kind++ },
			func(o *api.Op) { o.Slot++ },
			func(o *api.Op) { o.Slot += 1 << 32 },
			func(o *api.Op) { o.A += "a" },
			func(o *api.Op) { o.B += "b" },
			func(o *api.Op) { o.Data += "\x00" },
			func(o *api.Op) { o.A, o.B = o.B+"a", o.A },
			func(o *api.Op) { *o = api.Op{} },
		} {
			other := again()
			change(&other[i])
			expectSame(t, false, l, other)
		}
	}
	for i := range l {
		expectSame(t, false, l, l[:i])
		expectSame(t, false, l, l[i+1:])
		expectSame(t, false, l, append(again(), l[i]))
		expectSame(t, false, l, append(again()[:2], api.Op{}, l[i]))
		expectSame(t, false, l, append([]api.Op{l[i]}, l...))
	}
	expectSame(t, false, l, []api.Op{l[1], l[0], l[2]})
	expectSame(t, false, l, []api.Op{l[0], l[2], l[1]})
	expectSame(t, false, l, []api.Op{l[2], l[1], l[0]})
	expectSame(t, false, nil, []api.Op{{}})
	expectSame(t, false, []api.Op{{}}, []api.Op{{}, {}})
}

func TestSameOfAllShortLists(t *testing.T) {
	var all [][]api.Op
	lists(some()[:7], 3, func(l []api.Op) { all = append(all, l) })
	for i, a := range all {
		for j, b := range all {
			if got := Same(a, slices.Clone(b)); got != (i == j) {
				t.Errorf("Same(%v, %v): %t", a, b, got)
			}
		}
	}
}

// P19.2

func TestWhatIsBothHasMovesAlone(t *testing.T) {
	both := 0
	lists(some(), 4, func(l []api.Op) {
		if !Plan(l) || !Undo(l) {
			return
		}
		both++
		for _, o := range l {
			if o.Kind != api.OpMove {
				t.Errorf("%v is both a plan and an undo plan", l)
			}
		}
	})
	if both == 0 {
		t.Error("nothing was both a plan and an undo plan")
	}
}

func TestMovesAreBoth(t *testing.T) {
	var l []api.Op
	for i := range 20 {
		l = append(l, api.Op{Kind: api.OpMove, A: fmt.Sprint("/a", i), B: fmt.Sprint("/b", i)})
		if !Plan(l) || !Undo(l) {
			t.Errorf("Plan and Undo of %d moves: %t, %t", i+1, Plan(l), Undo(l))
		}
		for kind := 1; kind <= 10; kind++ {
			for at := range len(l) + 1 {
				m := slices.Insert(slices.Clone(l), at, whole(kind))
				if both := Plan(m) && Undo(m); both != (kind == api.OpMove) {
					t.Errorf("%d moves, and the kind %d at %d: %t", i+1, kind, at, both)
				}
			}
		}
	}
}

// P19.3

func TestHandedInStays(t *testing.T) {
	for _, l := range [][]api.Op{between(stashes(5, 70, 71), 1, 2, 4, 5, 6), between(returns(71, 70, 5), 6, 8), stashes(3, 1, 1), returns(1, 1, 3), wrong(), some()} {
		room := append(slices.Clone(l), api.Op{Kind: 7, Slot: 9, A: "/behind"}, api.Op{Kind: 8})
		was := slices.Clone(room)
		part := room[:len(l)]
		for range 2 {
			Plan(part)
			Undo(part)
			Same(part, part)
			Same(part, was)
			got := Slots(part)
			for i := range got {
				got[i] = -7
			}
			_ = append(got, -8)
			if !slices.Equal(room, was) {
				t.Fatalf("what was handed in is %v, and was %v", room, was)
			}
		}
	}
}

func TestTextsHandedInStay(t *testing.T) {
	memory := []byte("/a/b/c/dtarget")
	text := func(from, to int) string { return unsafe.String(&memory[from], to-from) }
	o := api.Op{Kind: api.OpSym, A: text(0, 8), Data: text(8, 14)}
	m := api.Op{Kind: api.OpMove, A: text(0, 4), B: text(4, 8)}
	if !May(o) || !May(m) || !Plan([]api.Op{o, m}) || !Undo([]api.Op{m}) || !Same([]api.Op{o}, []api.Op{o}) {
		t.Errorf("May: %t, %t; Plan, Undo, Same: %t, %t, %t", May(o), May(m), Plan([]api.Op{o, m}), Undo([]api.Op{m}), Same([]api.Op{o}, []api.Op{o}))
	}
	if string(memory) != "/a/b/c/dtarget" {
		t.Errorf("what was handed in is %q", memory)
	}
}

func TestAnswersAreNew(t *testing.T) {
	l := append(stashes(1, 2, 3), returns(6, 5, 4)...)
	want := []int{1, 2, 3, 6, 5, 4}
	first, second := Slots(l), Slots(l)
	for i := range first {
		first[i] = -1
	}
	first = append(first, -2)
	if !slices.Equal(second, want) || !slices.Equal(Slots(l), want) || len(first) != 7 {
		t.Errorf("Slots: %v and %v, not %v", second, Slots(l), want)
	}
	for i := range l {
		l[i] = api.Op{}
	}
	if !slices.Equal(second, want) {
		t.Errorf("what was answered hangs on what was handed in: %v, not %v", second, want)
	}
}

// The rules that hold everywhere

func TestTheSameAgain(t *testing.T) {
	lists(some(), 2, func(l []api.Op) {
		for range 3 {
			holdPlans(t, l)
			Plan(wrong())
			Undo(wrong())
		}
	})
	for range 3 {
		for kind := 1; kind <= 10; kind++ {
			expect(t, true, whole(kind))
			expect(t, false, api.Op{Kind: kind})
		}
	}
}

func TestAllAtOnce(t *testing.T) {
	var all sync.WaitGroup
	for range 8 {
		all.Go(func() {
			lists(some(), 3, func(l []api.Op) { holdPlans(t, l) })
		})
	}
	all.Wait()
}
