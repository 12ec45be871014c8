package stash

import (
	"cmp"
	"fmt"
	"math"
	"reflect"
	"slices"
	"strings"
	"testing"
	"unsafe"

	"drayman/api"
	"drayman/place"
	"drayman/seek"
	"drayman/sound"
	"drayman/table"
	"drayman/walk"
)

const (
	lastSlot = 1 << 30
	longest  = 4095
)

// line is an entry of a tree: where it stands, and the inode that it names, whose Data are of a file or a link alone.
type line struct {
	path string
	kind int
	ino  int
	data string
}

// treeOf answers the file system of these entries, a directory's own ahead of those in it, with room for no inode and no byte more.
func treeOf(lines ...line) api.Fs {
	inodes := map[int]*api.Inode{1: {Ino: 1, Kind: api.Dir, Parent: 1}}
	dirs := map[string]*api.Inode{"": inodes[1]}
	f := api.Fs{Next: 2}
	for _, l := range lines {
		cut := strings.LastIndexByte(l.path, '/')
		dir := dirs[l.path[:cut]]
		dir.Entries = append(dir.Entries, api.Entry{Name: l.path[cut+1:], Ino: l.ino})
		if inodes[l.ino] == nil {
			inodes[l.ino] = &api.Inode{Ino: l.ino, Kind: l.kind, Data: l.data}
			if l.kind == api.File {
				f.MaxBytes += len(l.data)
			}
		}
		inodes[l.ino].Links++
		if l.kind == api.Dir {
			inodes[l.ino].Parent = dir.Ino
			dirs[l.path] = inodes[l.ino]
		}
		f.Next = max(f.Next, l.ino+1)
	}
	for _, x := range inodes {
		slices.SortFunc(x.Entries, byName)
		f.Inodes = append(f.Inodes, *x)
	}
	slices.SortFunc(f.Inodes, byNumber)
	f.MaxInodes = len(f.Inodes)
	return f
}

func byName(a, b api.Entry) int { return cmp.Compare(a.Name, b.Name) }

func byNumber(x, y api.Inode) int { return cmp.Compare(x.Ino, y.Ino) }

func bySlot(a, b api.Kept) int { return cmp.Compare(a.Slot, b.Slot) }

// tree answers a sound file system: directories with entries and without, files and links of one entry and of more, with room for no inode and no byte more.
func tree() api.Fs {
	f := treeOf(
		line{"/a", api.Dir, 9, ""},
		line{"/b", api.File, 4, "abc"},
		line{"/d", api.Dir, 3, ""},
		line{"/d/e", api.Dir, 12, ""},
		line{"/d/e/f", api.File, 7, "\x00\xffdata"},
		line{"/d/e/s", api.Sym, 10, "d/"},
		line{"/d/e/v", api.Dir, 22, ""},
		line{"/d/f", api.File, 7, "\x00\xffdata"},
		line{"/d/t", api.Sym, 11, "../none"},
		line{"/empty", api.File, 5, ""},
		line{"/g", api.File, 6, "xy"},
		line{"/h", api.File, 6, "xy"},
		line{"/k", api.File, 6, "xy"},
		line{"/s", api.Sym, 10, "d/"},
	)
	f.Next = 30
	return f
}

// at answers where the plain path leads.
func at(t *testing.T, f api.Fs, p string) api.Spotted {
	t.Helper()
	spot, e := place.At(f, p)
	if e != api.OK {
		t.Fatalf("%q leads nowhere: %d", p, e)
	}
	return spot
}

// bares answers the paths of the entries that may be kept: those of files, links and directories without entries.
func bares(f api.Fs) []string {
	var all []string
	for _, seen := range walk.List(f) {
		if x := inode(f.Inodes, seen.Ino); len(x.Entries) == 0 && x.Ino != 1 {
			all = append(all, seen.Path)
		}
	}
	return all
}

// inode answers the list's inode of that number; none, if there is none.
func inode(l []api.Inode, ino int) api.Inode {
	for _, x := range l {
		if x.Ino == ino {
			return x
		}
	}
	return api.Inode{}
}

// copiedInodes answers the inodes in lists of their own, those that are empty as nil.
func copiedInodes(l []api.Inode) []api.Inode {
	var inodes []api.Inode
	for _, x := range l {
		x.Entries = append([]api.Entry(nil), x.Entries...)
		inodes = append(inodes, x)
	}
	return inodes
}

// copied answers the world in lists of its own, those that are empty as nil.
func copied(w api.World) api.World {
	w.Fs.Inodes = copiedInodes(w.Fs.Inodes)
	w.Stash.Pool = copiedInodes(w.Stash.Pool)
	w.Stash.Kept = append([]api.Kept(nil), w.Stash.Kept...)
	return w
}

// alike tells whether two worlds read alike.
func alike(a, b api.World) bool { return reflect.DeepEqual(copied(a), copied(b)) }

// The chapter's words once more.

// entryTaken answers the file system from which the entry there is taken away.
func entryTaken(f api.Fs, spot api.Spotted) api.Fs {
	var stay []api.Inode
	for _, x := range copiedInodes(f.Inodes) {
		if x.Ino == spot.Dir {
			x.Entries = slices.DeleteFunc(x.Entries, func(e api.Entry) bool { return e.Name == spot.Name })
		}
		if x.Ino == spot.Ino {
			x.Links--
		}
		if x.Ino != spot.Ino || x.Links != 0 {
			stay = append(stay, x)
		}
	}
	f.Inodes = stay
	return f
}

// isKept tells whether something is kept in the slot, and what.
func isKept(w api.World, slot int) (api.Kept, bool) {
	for _, k := range w.Stash.Kept {
		if k.Slot == slot {
			return k, true
		}
	}
	return api.Kept{}, false
}

// keeps answers the world that keeps that, too.
func keeps(w api.World, k api.Kept) api.World {
	w.Stash.Kept = append(w.Stash.Kept, k)
	slices.SortFunc(w.Stash.Kept, bySlot)
	return w
}

// lets answers the world that keeps nothing in the slot.
func lets(w api.World, slot int) api.World {
	w.Stash.Kept = slices.DeleteFunc(w.Stash.Kept, func(k api.Kept) bool { return k.Slot == slot })
	return w
}

// entryKept answers what Keep does.
func entryKept(w api.World, slot int, spot api.Spotted) (api.World, api.Errno) {
	w = copied(w)
	if _, there := isKept(w, slot); there {
		return w, api.ErrStash
	}
	x := inode(w.Fs.Inodes, spot.Ino)
	w.Fs = entryTaken(w.Fs, spot)
	if inode(w.Fs.Inodes, spot.Ino).Ino == 0 {
		w.Stash.Pool = append(w.Stash.Pool, api.Inode{Ino: x.Ino, Kind: x.Kind, Data: x.Data})
		slices.SortFunc(w.Stash.Pool, byNumber)
	}
	return keeps(w, api.Kept{Slot: slot, Ino: spot.Ino}), api.OK
}

// used answers how many bytes the files hold.
func used(l []api.Inode) int {
	bytes := 0
	for _, x := range l {
		if x.Kind == api.File {
			bytes += len(x.Data)
		}
	}
	return bytes
}

// wrongName tells, of the document's words alone, whether the name may not be.
func wrongName(name string) bool {
	return name == "" || name == "." || name == ".." || len(name) > 255 || strings.ContainsAny(name, "/\x00")
}

// entryGiven answers what Give does.
func entryGiven(w api.World, slot int, spot api.Spotted) (api.World, api.Errno) {
	w = copied(w)
	k, there := isKept(w, slot)
	if !there || k.Content {
		return w, api.ErrStash
	}
	if wrongName(spot.Name) {
		return w, api.ErrArg
	}
	x := inode(w.Stash.Pool, k.Ino)
	if x.Ino == 0 && inode(w.Fs.Inodes, k.Ino).Kind == api.Dir {
		return w, api.ErrArg
	}
	if x.Ino != 0 {
		if len(w.Fs.Inodes) == w.Fs.MaxInodes || x.Kind == api.File && len(x.Data) > w.Fs.MaxBytes-used(w.Fs.Inodes) {
			return w, api.ErrSpace
		}
		if x.Kind == api.Dir {
			x.Parent = spot.Dir
		}
		w.Fs.Inodes = append(w.Fs.Inodes, x)
		slices.SortFunc(w.Fs.Inodes, byNumber)
		w.Stash.Pool = slices.DeleteFunc(w.Stash.Pool, func(y api.Inode) bool { return y.Ino == x.Ino })
	}
	for i, y := range w.Fs.Inodes {
		if y.Ino == spot.Dir {
			w.Fs.Inodes[i].Entries = append(y.Entries, api.Entry{Name: spot.Name, Ino: k.Ino})
			slices.SortFunc(w.Fs.Inodes[i].Entries, byName)
		}
		if y.Ino == k.Ino {
			w.Fs.Inodes[i].Links++
		}
	}
	return lets(w, slot), api.OK
}

// contentKept answers what KeepData does.
func contentKept(w api.World, slot, ino int) (api.World, api.Errno) {
	w = copied(w)
	if _, there := isKept(w, slot); there {
		return w, api.ErrStash
	}
	return keeps(w, api.Kept{Slot: slot, Ino: ino, Content: true, Data: inode(w.Fs.Inodes, ino).Data}), api.OK
}

// contentGiven answers what GiveData does.
func contentGiven(w api.World, slot int) (api.World, api.Errno) {
	w = copied(w)
	k, there := isKept(w, slot)
	if !there || !k.Content || inode(w.Fs.Inodes, k.Ino).Ino == 0 {
		return w, api.ErrStash
	}
	if used(w.Fs.Inodes)-len(inode(w.Fs.Inodes, k.Ino).Data)+len(k.Data) > w.Fs.MaxBytes {
		return w, api.ErrSpace
	}
	for i, x := range w.Fs.Inodes {
		if x.Ino == k.Ino {
			w.Fs.Inodes[i].Data = k.Data
		}
	}
	return lets(w, slot), api.OK
}

// right tells whether the world is right, rule by rule, in the chapter's order.
func right(w api.World) bool {
	if sound.Check(w.Fs) != 0 {
		return false
	}
	inFs := func(ino int) bool {
		return slices.ContainsFunc(w.Fs.Inodes, func(x api.Inode) bool { return x.Ino == ino })
	}
	inPool := func(ino int) bool {
		return slices.ContainsFunc(w.Stash.Pool, func(x api.Inode) bool { return x.Ino == ino })
	}
	isFile := func(ino int) bool {
		return slices.ContainsFunc(slices.Concat(w.Fs.Inodes, w.Stash.Pool), func(x api.Inode) bool {
			return x.Ino == ino && x.Kind == api.File
		})
	}
	for i, k := range w.Stash.Kept {
		if i > 0 && k.Slot <= w.Stash.Kept[i-1].Slot || k.Slot < 1 || k.Slot > lastSlot {
			return false
		}
		if !inFs(k.Ino) && !inPool(k.Ino) || k.Content && !isFile(k.Ino) || !k.Content && k.Data != "" {
			return false
		}
	}
	for i, x := range w.Stash.Pool {
		if i > 0 && x.Ino <= w.Stash.Pool[i-1].Ino || x.Ino < 1 || inFs(x.Ino) || x.Ino >= w.Fs.Next {
			return false
		}
		if !poolInode(x) {
			return false
		}
		if !slices.ContainsFunc(w.Stash.Kept, func(k api.Kept) bool { return k.Ino == x.Ino && !k.Content }) {
			return false
		}
	}
	return true
}

// poolInode tells whether an inode such as this one may be in the Pool.
func poolInode(x api.Inode) bool {
	if x.Parent != 0 || len(x.Entries) != 0 || x.Links != 0 {
		return false
	}
	if x.Kind == api.Sym {
		return len(x.Data) >= 1 && len(x.Data) <= longest && !strings.Contains(x.Data, "\x00")
	}
	return x.Kind == api.File || x.Kind == api.Dir && x.Data == ""
}

// expectRight asks Right of the world.
func expectRight(t *testing.T, what string, w api.World, want bool) {
	t.Helper()
	if got := Right(w); got != want {
		t.Errorf("Right of %s: %v: %+v", what, got, w)
	}
}

// expectSame asks whether got is want, whether Same says so, and whether it is right.
func expectSame(t *testing.T, what string, got, want api.World) {
	t.Helper()
	if !alike(got, want) {
		t.Fatalf("%s: %+v, not %+v", what, got, want)
	}
	if !Same(got, want) {
		t.Errorf("%s: Same says otherwise of %+v", what, got)
	}
	expectRight(t, what, got, true)
}

// expectKept asks Keep for the world that keeps the entry at the path, and answers it.
func expectKept(t *testing.T, w api.World, slot int, p string) api.World {
	t.Helper()
	spot := at(t, w.Fs, p)
	what := fmt.Sprintf("Keep of %q in %d", p, slot)
	want, _ := entryKept(w, slot, spot)
	got, e := Keep(w, slot, spot)
	if e != api.OK {
		t.Fatalf("%s: %d", what, e)
	}
	expectSame(t, what, got, want)
	if k, there := Find(got, slot); !there || k != (api.Kept{Slot: slot, Ino: spot.Ino}) {
		t.Errorf("%s: %+v, %v is kept", what, k, there)
	}
	return got
}

// expectGiven asks Give for the world in which the slot's entry is given back at the path, and answers it.
func expectGiven(t *testing.T, w api.World, slot int, p string) api.World {
	t.Helper()
	spot := at(t, w.Fs, p)
	what := fmt.Sprintf("Give of %d at %q", slot, p)
	want, _ := entryGiven(w, slot, spot)
	got, e := Give(w, slot, spot)
	if e != api.OK {
		t.Fatalf("%s: %d", what, e)
	}
	expectSame(t, what, got, want)
	if k, there := Find(got, slot); there || k != (api.Kept{}) {
		t.Errorf("%s: %+v is still kept", what, k)
	}
	if back := at(t, got.Fs, p); back.Ino == 0 || back.Dir != spot.Dir {
		t.Errorf("%s: the path leads to %+v", what, back)
	}
	return got
}

// expectNotGiven asks Give for the error, and for the world as it was.
func expectNotGiven(t *testing.T, w api.World, slot int, spot api.Spotted, want api.Errno) {
	t.Helper()
	if got, e := Give(w, slot, spot); e != want || !alike(got, w) {
		t.Errorf("Give of %d at %.60q: %+v, %d, not as it was, %d", slot, fmt.Sprint(spot), got, e, want)
	}
}

// expectDataKept asks KeepData for the world that keeps the content of the file at the path, and answers it.
func expectDataKept(t *testing.T, w api.World, slot int, p string) api.World {
	t.Helper()
	ino := at(t, w.Fs, p).Ino
	what := fmt.Sprintf("KeepData of %q in %d", p, slot)
	want, _ := contentKept(w, slot, ino)
	got, e := KeepData(w, slot, ino)
	if e != api.OK {
		t.Fatalf("%s: %d", what, e)
	}
	expectSame(t, what, got, want)
	if k, there := Find(got, slot); !there || k != (api.Kept{Slot: slot, Ino: ino, Content: true, Data: inode(w.Fs.Inodes, ino).Data}) {
		t.Errorf("%s: %+v, %v is kept", what, k, there)
	}
	return got
}

// expectDataGiven asks GiveData for the world in which the slot's content is given back, and answers it.
func expectDataGiven(t *testing.T, w api.World, slot int) api.World {
	t.Helper()
	k, _ := isKept(w, slot)
	what := fmt.Sprintf("GiveData of %d", slot)
	want, _ := contentGiven(w, slot)
	got, e := GiveData(w, slot)
	if e != api.OK {
		t.Fatalf("%s: %d", what, e)
	}
	expectSame(t, what, got, want)
	if x := inode(got.Fs.Inodes, k.Ino); x.Data != k.Data || k.Ino == 0 {
		t.Errorf("%s: the file is %+v", what, x)
	}
	return got
}

// expectDataNotGiven asks GiveData for the error, and for the world as it was.
func expectDataNotGiven(t *testing.T, w api.World, slot int, want api.Errno) {
	t.Helper()
	if got, e := GiveData(w, slot); e != want || !alike(got, w) {
		t.Errorf("GiveData of %d: %+v, %d, not as it was, %d", slot, got, e, want)
	}
}

// expectTaken asks Keep and KeepData for ErrStash, and for the world as it was.
func expectTaken(t *testing.T, w api.World, slot int) {
	t.Helper()
	for _, p := range bares(w.Fs) {
		if got, e := Keep(w, slot, at(t, w.Fs, p)); e != api.ErrStash || !alike(got, w) {
			t.Errorf("Keep of %q in %d: %+v, %d", p, slot, got, e)
		}
	}
	for _, x := range w.Fs.Inodes {
		if x.Kind != api.File {
			continue
		}
		if got, e := KeepData(w, slot, x.Ino); e != api.ErrStash || !alike(got, w) {
			t.Errorf("KeepData of %d in %d: %+v, %d", x.Ino, slot, got, e)
		}
	}
}

// written answers the world in which the file of that number holds those data.
func written(w api.World, ino int, data string) api.World {
	w = copied(w)
	for i, x := range w.Fs.Inodes {
		if x.Ino == ino {
			w.Fs.Inodes[i].Data = data
		}
	}
	return w
}

// roomFor answers the world whose file system takes so many inodes and bytes more than it uses.
func roomFor(w api.World, inodes, bytes int) api.World {
	w = copied(w)
	w.Fs.MaxInodes = len(w.Fs.Inodes) + inodes
	w.Fs.MaxBytes = used(w.Fs.Inodes) + bytes
	return w
}

// full answers a world that keeps of each kind: entries of inodes of the file system and of the Pool, and contents.
func full(t *testing.T) api.World {
	t.Helper()
	w := api.World{Fs: tree()}
	w = expectKept(t, w, 3, "/b")
	w = expectKept(t, w, 5, "/g")
	w = expectDataKept(t, w, 6, "/h")
	w = expectKept(t, w, 9, "/d/e/v")
	w = expectKept(t, w, 12, "/s")
	w = expectDataKept(t, w, 20, "/d/f")
	w = expectKept(t, w, 21, "/d/e/f")
	w = expectKept(t, w, 22, "/d/f")
	w = expectKept(t, w, 25, "/d/t")
	return w
}

// P21.1: Right

// plain answers a right world of few inodes, written out: a file that two slots keep and none names, one that an entry names, a link, a directory.
func plain() api.World {
	return api.World{
		Fs: api.Fs{MaxInodes: 3, MaxBytes: 2, Next: 20, Inodes: []api.Inode{
			{Ino: 1, Kind: api.Dir, Parent: 1, Entries: []api.Entry{{Name: "d", Ino: 2}, {Name: "g", Ino: 4}}},
			{Ino: 2, Kind: api.Dir, Links: 1, Parent: 1},
			{Ino: 4, Kind: api.File, Links: 1, Data: "xy"},
		}},
		Stash: api.Stash{
			Kept: []api.Kept{
				{Slot: 2, Ino: 3},
				{Slot: 4, Ino: 4},
				{Slot: 6, Ino: 3, Content: true, Data: "more"},
				{Slot: 7, Ino: 4, Content: true},
				{Slot: 8, Ino: 6},
				{Slot: 11, Ino: 9},
				{Slot: 12, Ino: 3},
				{Slot: 13, Ino: 1},
			},
			Pool: []api.Inode{
				{Ino: 3, Kind: api.File, Data: "abc"},
				{Ino: 6, Kind: api.Dir},
				{Ino: 9, Kind: api.Sym, Data: "d/"},
			},
		},
	}
}

// change is a change of a world, and whether it leaves the plain one right.
type change struct {
	what string
	ok   bool
	do   func(w *api.World)
}

// slotChanges answers changes of what is kept.
func slotChanges() []change {
	k := func(i int, do func(k *api.Kept)) func(w *api.World) {
		return func(w *api.World) { do(&w.Stash.Kept[i]) }
	}
	add := func(i int, more ...api.Kept) func(w *api.World) {
		return func(w *api.World) { w.Stash.Kept = slices.Insert(w.Stash.Kept, i, more...) }
	}
	return []change{
		{"a slot 1", true, k(0, func(k *api.Kept) { k.Slot = 1 })},
		{"a slot 0", false, k(0, func(k *api.Kept) { k.Slot = 0 })},
		{"a slot below 0", false, k(0, func(k *api.Kept) { k.Slot = -1 })},
		{"the least number as a slot", false, k(0, func(k *api.Kept) { k.Slot = math.MinInt })},
		{"a slot 2^30", true, k(7, func(k *api.Kept) { k.Slot = lastSlot })},
		{"a slot above 2^30", false, k(7, func(k *api.Kept) { k.Slot = lastSlot + 1 })},
		{"the greatest number as a slot", false, k(7, func(k *api.Kept) { k.Slot = math.MaxInt })},
		{"slots alike", false, k(1, func(k *api.Kept) { k.Slot = 2 })},
		{"the last slots alike", false, k(7, func(k *api.Kept) { k.Slot = 12 })},
		{"slots that fall", false, k(1, func(k *api.Kept) { k.Slot = 1 })},
		{"the last slots fall", false, k(7, func(k *api.Kept) { k.Slot = 11 })},
		{"slots turned round", false, func(w *api.World) { slices.Reverse(w.Stash.Kept) }},
		{"slots one above the other", true, k(0, func(k *api.Kept) { k.Slot = 3 })},
		{"an inode that is nowhere", false, k(1, func(k *api.Kept) { k.Ino = 5 })},
		{"an inode 0", false, k(1, func(k *api.Kept) { k.Ino = 0 })},
		{"an inode below 0", false, k(1, func(k *api.Kept) { k.Ino = -4 })},
		{"an inode that is Next", false, k(1, func(k *api.Kept) { k.Ino = 20 })},
		{"an inode of the file system, a directory", true, k(1, func(k *api.Kept) { k.Ino = 2 })},
		{"another inode of the Pool", true, k(1, func(k *api.Kept) { k.Ino = 9 })},
		{"content of a directory", false, k(2, func(k *api.Kept) { k.Ino = 2 })},
		{"content of Root", false, k(2, func(k *api.Kept) { k.Ino = 1 })},
		{"content of a directory of the Pool", false, k(2, func(k *api.Kept) { k.Ino = 6 })},
		{"content of a link", false, k(2, func(k *api.Kept) { k.Ino = 9 })},
		{"content of nothing", false, k(2, func(k *api.Kept) { k.Ino = 5 })},
		{"content of no number", false, k(2, func(k *api.Kept) { k.Ino = 0 })},
		{"content of a file of the file system", true, k(2, func(k *api.Kept) { k.Ino = 4 })},
		{"content, empty", true, k(2, func(k *api.Kept) { k.Data = "" })},
		{"content of whatever bytes", true, k(2, func(k *api.Kept) { k.Data = "\x00\xff" + strings.Repeat("x", 5000) })},
		{"data without content", false, k(1, func(k *api.Kept) { k.Data = "x" })},
		{"data without content, of a file of the Pool", false, k(0, func(k *api.Kept) { k.Data = "abc" })},
		{"data without content, of a link", false, k(5, func(k *api.Kept) { k.Data = "d/" })},
		{"what had content has data alone", false, k(2, func(k *api.Kept) { k.Content = false })},
		{"what had content has none", true, k(3, func(k *api.Kept) { k.Content = false })},
		{"a file of the Pool that is kept once as an entry", true, k(0, func(k *api.Kept) { k.Content = true })},
		{"one slot more", true, add(0, api.Kept{Slot: 1, Ino: 4})},
		{"one slot more of nothing", false, add(0, api.Kept{Slot: 1})},
		{"one slot more behind", true, add(8, api.Kept{Slot: 14, Ino: 6})},
		{"the slot of content of the Pool away", true, func(w *api.World) { w.Stash.Kept = slices.Delete(w.Stash.Kept, 2, 3) }},
		{"the slot of an entry of the Pool's directory away", false, func(w *api.World) { w.Stash.Kept = slices.Delete(w.Stash.Kept, 4, 5) }},
		{"the slot of an entry of the Pool's link away", false, func(w *api.World) { w.Stash.Kept = slices.Delete(w.Stash.Kept, 5, 6) }},
		{"both slots of the Pool's file away", false, func(w *api.World) { w.Stash.Kept = slices.Delete(slices.Delete(w.Stash.Kept, 6, 7), 0, 1) }},
		{"one slot of the Pool's file away", true, func(w *api.World) { w.Stash.Kept = slices.Delete(w.Stash.Kept, 6, 7) }},
		{"no slots", false, func(w *api.World) { w.Stash.Kept = nil }},
	}
}

// poolChanges answers changes of the Pool.
func poolChanges() []change {
	p := func(i int, do func(x *api.Inode)) func(w *api.World) {
		return func(w *api.World) { do(&w.Stash.Pool[i]) }
	}
	renumber := func(i, ino int) func(w *api.World) {
		return func(w *api.World) {
			for j, k := range w.Stash.Kept {
				if k.Ino == w.Stash.Pool[i].Ino {
					w.Stash.Kept[j].Ino = ino
				}
			}
			w.Stash.Pool[i].Ino = ino
		}
	}
	return []change{
		{"a number 0", false, renumber(0, 0)},
		{"a number below 0", false, renumber(0, -1)},
		{"Root's number", false, renumber(0, 1)},
		{"a number of the file system's first", false, renumber(0, 2)},
		{"a number of the file system's last", false, renumber(0, 4)},
		{"another number", true, renumber(0, 5)},
		{"the number ahead of Next", true, renumber(2, 19)},
		{"the number Next", false, renumber(2, 20)},
		{"a number above Next", false, renumber(2, 21)},
		{"the greatest number", false, renumber(2, math.MaxInt)},
		{"Next just above the Pool", true, func(w *api.World) { w.Fs.Next = 10 }},
		{"Next in the Pool", false, func(w *api.World) { w.Fs.Next = 9 }},
		{"Next below the Pool's last", false, func(w *api.World) { w.Fs.Next = 7 }},
		{"numbers alike", false, renumber(0, 6)},
		{"numbers that fall", false, renumber(0, 7)},
		{"the last numbers fall", false, renumber(1, 10)},
		{"the Pool turned round", false, func(w *api.World) { slices.Reverse(w.Stash.Pool) }},
		{"one inode twice", false, func(w *api.World) { w.Stash.Pool = slices.Insert(w.Stash.Pool, 0, w.Stash.Pool[0]) }},
		{"a file with Links", false, p(0, func(x *api.Inode) { x.Links = 1 })},
		{"a directory with Links", false, p(1, func(x *api.Inode) { x.Links = 1 })},
		{"a link with Links", false, p(2, func(x *api.Inode) { x.Links = 1 })},
		{"Links below 0", false, p(0, func(x *api.Inode) { x.Links = -1 })},
		{"a file with a Parent", false, p(0, func(x *api.Inode) { x.Parent = 1 })},
		{"a directory with a Parent", false, p(1, func(x *api.Inode) { x.Parent = 1 })},
		{"a link with a Parent", false, p(2, func(x *api.Inode) { x.Parent = 2 })},
		{"a Parent below 0", false, p(1, func(x *api.Inode) { x.Parent = -1 })},
		{"a file with entries", false, p(0, func(x *api.Inode) { x.Entries = []api.Entry{{Name: "a", Ino: 4}} })},
		{"a directory with entries", false, p(1, func(x *api.Inode) { x.Entries = []api.Entry{{Name: "a", Ino: 4}} })},
		{"a link with entries", false, p(2, func(x *api.Inode) { x.Entries = []api.Entry{{}} })},
		{"a directory with an empty list of entries", true, p(1, func(x *api.Inode) { x.Entries = []api.Entry{} })},
		{"a file with an empty list of entries", true, p(0, func(x *api.Inode) { x.Entries = []api.Entry{} })},
		{"a directory with data", false, p(1, func(x *api.Inode) { x.Data = "x" })},
		{"a link without data", false, p(2, func(x *api.Inode) { x.Data = "" })},
		{"a link of one byte", true, p(2, func(x *api.Inode) { x.Data = "/" })},
		{"a link with a byte 0", false, p(2, func(x *api.Inode) { x.Data = "d\x00" })},
		{"a link of MaxPath bytes", true, p(2, func(x *api.Inode) { x.Data = strings.Repeat("x", longest) })},
		{"a link of more bytes", false, p(2, func(x *api.Inode) { x.Data = strings.Repeat("x", longest+1) })},
		{"a file without data", true, p(0, func(x *api.Inode) { x.Data = "" })},
		{"a file with a byte 0", true, p(0, func(x *api.Inode) { x.Data = "\x00" })},
		{"a file of many bytes", true, p(0, func(x *api.Inode) { x.Data = strings.Repeat("x", longest+1) })},
		{"a kind 0", false, p(1, func(x *api.Inode) { x.Kind = 0 })},
		{"a kind 4", false, p(1, func(x *api.Inode) { x.Kind = 4 })},
		{"a kind below 0", false, p(1, func(x *api.Inode) { x.Kind = -2 })},
		{"a file of whose entries none is kept, but content", false, func(w *api.World) {
			w.Stash.Pool = append(w.Stash.Pool, api.Inode{Ino: 12, Kind: api.File})
			w.Stash.Kept = append(w.Stash.Kept, api.Kept{Slot: 99, Ino: 12, Content: true})
		}},
		{"a file that is kept nowhere", false, func(w *api.World) {
			w.Stash.Pool = append(w.Stash.Pool, api.Inode{Ino: 12, Kind: api.File})
		}},
		{"one inode more", true, func(w *api.World) {
			w.Stash.Pool = append(w.Stash.Pool, api.Inode{Ino: 12, Kind: api.File})
			w.Stash.Kept = append(w.Stash.Kept, api.Kept{Slot: 99, Ino: 12})
		}},
		{"the Pool's file away", false, func(w *api.World) { w.Stash.Pool = w.Stash.Pool[1:] }},
		{"the Pool's link away", false, func(w *api.World) { w.Stash.Pool = w.Stash.Pool[:2] }},
		{"no Pool", false, func(w *api.World) { w.Stash.Pool = nil }},
		{"nothing kept", true, func(w *api.World) { w.Stash = api.Stash{} }},
		{"empty lists", true, func(w *api.World) { w.Stash = api.Stash{Kept: []api.Kept{}, Pool: []api.Inode{}} }},
	}
}

// fsChanges answers changes of the file system.
func fsChanges() []change {
	return []change{
		{"no file system", false, func(w *api.World) { w.Fs = api.Fs{} }},
		{"no room for inodes", false, func(w *api.World) { w.Fs.MaxInodes = 2 }},
		{"no room for bytes", false, func(w *api.World) { w.Fs.MaxBytes = 1 }},
		{"more room", true, func(w *api.World) { w.Fs.MaxInodes, w.Fs.MaxBytes = 9, 9 }},
		{"Root with Links", false, func(w *api.World) { w.Fs.Inodes[0].Links = 1 }},
		{"Next at its limit", true, func(w *api.World) { w.Fs.Next = 1 << 40 }},
		{"Next above its limit", false, func(w *api.World) { w.Fs.Next = 1<<40 + 1 }},
		{"the least Next", false, func(w *api.World) { w.Fs.Next = math.MinInt }},
		{"an entry of an inode of the Pool", false, func(w *api.World) { w.Fs.Inodes[0].Entries[1].Ino = 3 }},
		{"a file that no entry names", false, func(w *api.World) { w.Fs.Inodes[0].Entries = w.Fs.Inodes[0].Entries[:1] }},
		{"inodes turned round", false, func(w *api.World) { slices.Reverse(w.Fs.Inodes) }},
		{"the file away, and its content kept", false, func(w *api.World) {
			w.Fs.Inodes, w.Fs.Inodes[0].Entries = w.Fs.Inodes[:2], w.Fs.Inodes[0].Entries[:1]
		}},
		{"nothing else", true, func(w *api.World) {}},
	}
}

func TestRight(t *testing.T) {
	expectRight(t, "the plain world", plain(), true)
	for _, c := range slices.Concat(slotChanges(), poolChanges(), fsChanges()) {
		w := plain()
		c.do(&w)
		expectRight(t, c.what, w, c.ok)
		if right(w) != c.ok {
			t.Errorf("the chapter's words say otherwise of %s", c.what)
		}
	}
}

func TestRightOfTwoChanges(t *testing.T) {
	all := slices.Concat(slotChanges(), poolChanges(), fsChanges())
	count := map[bool]int{}
	for _, c := range all {
		for _, d := range all {
			w := plain()
			c.do(&w)
			func() {
				// A change may have taken away what another one is of.
				defer func() { recover() }()
				d.do(&w)
			}()
			want := right(w)
			count[want]++
			expectRight(t, c.what+", "+d.what, w, want)
		}
	}
	if count[true] < 500 || count[false] < 5000 {
		t.Errorf("%v pairs", count)
	}
}

func TestRightOfEmptyStashes(t *testing.T) {
	for _, f := range []api.Fs{tree(), treeOf(), plain().Fs} {
		expectRight(t, "a sound file system alone", api.World{Fs: f}, true)
		expectRight(t, "a sound file system, and empty lists", api.World{Fs: f, Stash: api.Stash{Kept: []api.Kept{}, Pool: []api.Inode{}}}, true)
	}
	expectRight(t, "nothing", api.World{}, false)
	expectRight(t, "a stash alone", api.World{Stash: plain().Stash}, false)
	f, _ := table.New(1, 0)
	expectRight(t, "a new table", api.World{Fs: f}, true)
	// What is kept may be of the least and of the greatest number that there may be.
	f.Next = 1 << 40
	expectRight(t, "the greatest number", api.World{Fs: f, Stash: api.Stash{
		Kept: []api.Kept{{Slot: 1, Ino: 1<<40 - 1}, {Slot: lastSlot, Ino: 2}},
		Pool: []api.Inode{{Ino: 2, Kind: api.Dir}, {Ino: 1<<40 - 1, Kind: api.Dir}},
	}}, true)
}

func TestRightOfWhatCostsNoRoom(t *testing.T) {
	// A file system that is full, and a stash of many inodes and bytes.
	f, _ := table.New(1, 0)
	f.Next = 2000
	w := api.World{Fs: f}
	for ino := 2; ino < 1000; ino++ {
		w.Stash.Pool = append(w.Stash.Pool, api.Inode{Ino: ino, Kind: api.File, Data: strings.Repeat("x", ino)})
		w.Stash.Kept = append(w.Stash.Kept, api.Kept{Slot: ino - 1, Ino: ino})
	}
	expectRight(t, "many files in the Pool", w, true)
	w.Stash.Pool[500].Links = 1
	expectRight(t, "one of many with Links", w, false)
}

// P21.1: Find, Purge, Same

func TestFind(t *testing.T) {
	w := full(t)
	kept := map[int]api.Kept{
		3: {Slot: 3, Ino: 4}, 5: {Slot: 5, Ino: 6}, 6: {Slot: 6, Ino: 6, Content: true, Data: "xy"},
		9: {Slot: 9, Ino: 22}, 12: {Slot: 12, Ino: 10}, 20: {Slot: 20, Ino: 7, Content: true, Data: "\x00\xffdata"},
		21: {Slot: 21, Ino: 7}, 22: {Slot: 22, Ino: 7}, 25: {Slot: 25, Ino: 11},
	}
	for slot := -2; slot < 40; slot++ {
		want, there := kept[slot]
		if got, ok := Find(w, slot); got != want || ok != there {
			t.Errorf("Find of %d: %+v, %v", slot, got, ok)
		}
	}
	for _, slot := range []int{1, 2, 3, lastSlot - 1, lastSlot, lastSlot + 1, math.MaxInt, math.MinInt} {
		if got, ok := Find(api.World{Fs: tree()}, slot); ok || got != (api.Kept{}) {
			t.Errorf("Find of %d in nothing: %+v", slot, got)
		}
	}
	w.Stash.Kept = []api.Kept{{Slot: 1, Ino: 3}, {Slot: lastSlot, Ino: 4, Content: true}}
	for _, k := range w.Stash.Kept {
		if got, ok := Find(w, k.Slot); got != k || !ok {
			t.Errorf("Find of %d: %+v, %v", k.Slot, got, ok)
		}
	}
}

func TestFindOfMany(t *testing.T) {
	w := api.World{Fs: tree()}
	for many := range 40 {
		for slot := 1; slot <= 2*many+1; slot++ {
			want := slot%2 == 0
			if k, ok := Find(w, slot); ok != want || want && k != (api.Kept{Slot: slot, Ino: slot + 100}) {
				t.Errorf("Find of %d among %d: %+v, %v", slot, many, k, ok)
			}
		}
		w.Stash.Kept = append(w.Stash.Kept, api.Kept{Slot: 2*many + 2, Ino: 2*many + 102})
	}
}

func TestPurge(t *testing.T) {
	for _, w := range []api.World{full(t), plain(), {Fs: tree()}, {Fs: treeOf()}} {
		got := Purge(w)
		expectSame(t, "Purge", got, api.World{Fs: w.Fs})
		if len(got.Stash.Kept) != 0 || len(got.Stash.Pool) != 0 {
			t.Errorf("behind Purge: %+v", got.Stash)
		}
		for _, k := range w.Stash.Kept {
			expectNotGiven(t, got, k.Slot, api.Spotted{Dir: 1, Name: "q"}, api.ErrStash)
			expectDataNotGiven(t, got, k.Slot, api.ErrStash)
		}
		expectSame(t, "Purge again", Purge(got), got)
		// The slots may be taken again.
		if len(bares(got.Fs)) > 0 {
			expectKept(t, got, 3, bares(got.Fs)[0])
		}
	}
}

func TestSame(t *testing.T) {
	differ := []func(w *api.World){
		func(w *api.World) { w.Fs.MaxInodes++ },
		func(w *api.World) { w.Fs.MaxBytes++ },
		func(w *api.World) { w.Fs.Next++ },
		func(w *api.World) { w.Fs.Inodes = w.Fs.Inodes[:2] },
		func(w *api.World) { w.Fs.Inodes[2].Ino++ },
		func(w *api.World) { w.Fs.Inodes[2].Kind = api.Sym },
		func(w *api.World) { w.Fs.Inodes[2].Links++ },
		func(w *api.World) { w.Fs.Inodes[2].Data = "xz" },
		func(w *api.World) { w.Fs.Inodes[1].Parent = 2 },
		func(w *api.World) { w.Fs.Inodes[0].Entries[0].Name = "e" },
		func(w *api.World) { w.Fs.Inodes[0].Entries[0].Ino = 4 },
		func(w *api.World) { w.Fs.Inodes[0].Entries = nil },
		func(w *api.World) { w.Stash.Kept[0].Slot = 1 },
		func(w *api.World) { w.Stash.Kept[7].Slot = 14 },
		func(w *api.World) { w.Stash.Kept[1].Ino = 3 },
		func(w *api.World) { w.Stash.Kept[1].Content = true },
		func(w *api.World) { w.Stash.Kept[2].Data = "mote" },
		func(w *api.World) { w.Stash.Kept = w.Stash.Kept[:7] },
		func(w *api.World) { w.Stash.Kept = w.Stash.Kept[1:] },
		func(w *api.World) { w.Stash.Kept = nil },
		func(w *api.World) { w.Stash.Kept = append(w.Stash.Kept, api.Kept{}) },
		func(w *api.World) { slices.Reverse(w.Stash.Kept) },
		func(w *api.World) { w.Stash.Pool[0].Ino = 2 },
		func(w *api.World) { w.Stash.Pool[0].Kind = api.Sym },
		func(w *api.World) { w.Stash.Pool[0].Links = 1 },
		func(w *api.World) { w.Stash.Pool[2].Data = "d" },
		func(w *api.World) { w.Stash.Pool[1].Parent = 1 },
		func(w *api.World) { w.Stash.Pool[1].Entries = []api.Entry{{}} },
		func(w *api.World) { w.Stash.Pool = w.Stash.Pool[:2] },
		func(w *api.World) { w.Stash.Pool = nil },
		func(w *api.World) { w.Stash.Pool = append(w.Stash.Pool, api.Inode{}) },
		func(w *api.World) { slices.Reverse(w.Stash.Pool) },
		func(w *api.World) { w.Stash.Pool, w.Fs.Inodes = w.Fs.Inodes, w.Stash.Pool },
		func(w *api.World) { *w = api.World{} },
	}
	for i, f := range differ {
		a := plain()
		f(&a)
		if Same(a, plain()) || Same(plain(), a) || !Same(a, copied(a)) {
			t.Errorf("change %d: %+v", i, a)
		}
		for j, g := range differ {
			b := plain()
			g(&b)
			if got := Same(a, b); got != alike(a, b) || i != j && got {
				t.Errorf("changes %d and %d: %v", i, j, got)
			}
		}
	}
	bare := api.World{Fs: tree()}
	listed := api.World{Fs: tree(), Stash: api.Stash{Kept: []api.Kept{}, Pool: []api.Inode{}}}
	listed.Fs.Inodes[1].Entries = append(listed.Fs.Inodes[1].Entries, []api.Entry{}...)
	if !Same(bare, listed) || !Same(listed, bare) || !Same(api.World{}, api.World{Stash: listed.Stash}) {
		t.Error("nil and empty lists are one")
	}
}

// P21.2

func TestChaptersExample(t *testing.T) {
	// A file with two entries, both kept.
	f := treeOf(line{"/f", api.File, 2, "abc"}, line{"/g", api.File, 2, "abc"})
	w := api.World{Fs: f}
	one := expectKept(t, w, 1, "/f")
	if len(one.Stash.Pool) != 0 || inode(one.Fs.Inodes, 2).Links != 1 {
		t.Errorf("behind the first one: %+v", one)
	}
	two := expectKept(t, one, 2, "/g")
	if len(two.Stash.Pool) != 1 || !reflect.DeepEqual(two.Stash.Pool[0], api.Inode{Ino: 2, Kind: api.File, Data: "abc"}) || len(two.Fs.Inodes) != 1 {
		t.Errorf("behind the second one: %+v", two)
	}
	for _, slots := range [][]int{{1, 2}, {2, 1}} {
		for _, names := range [][]string{{"/f", "/g"}, {"/g", "/f"}, {"/p", "/q"}} {
			back := expectGiven(t, two, slots[0], names[0])
			if len(back.Stash.Pool) != 0 || inode(back.Fs.Inodes, 2).Links != 1 || inode(back.Fs.Inodes, 2).Data != "abc" {
				t.Errorf("behind the first one that is given back: %+v", back)
			}
			back = expectGiven(t, back, slots[1], names[1])
			if len(back.Stash.Kept) != 0 || inode(back.Fs.Inodes, 2).Links != 2 {
				t.Errorf("behind the second one that is given back: %+v", back)
			}
			if names[0] != "/p" {
				expectSame(t, "both given back", back, w)
			}
		}
	}
}

func TestWrittenOut(t *testing.T) {
	w := plain()
	got, e := Keep(w, 5, api.Spotted{Dir: 1, Name: "g", Ino: 4})
	want := plain()
	want.Fs.Inodes = want.Fs.Inodes[:2]
	want.Fs.Inodes[0].Entries = want.Fs.Inodes[0].Entries[:1]
	want.Stash.Kept = slices.Insert(want.Stash.Kept, 2, api.Kept{Slot: 5, Ino: 4})
	want.Stash.Pool = slices.Insert(want.Stash.Pool, 1, api.Inode{Ino: 4, Kind: api.File, Data: "xy"})
	if e != api.OK {
		t.Errorf("Keep of a file: %d", e)
	}
	expectSame(t, "Keep of a file", got, want)

	got, e = Keep(w, 1, api.Spotted{Dir: 1, Name: "d", Ino: 2})
	want = plain()
	want.Fs.Inodes = slices.Delete(want.Fs.Inodes, 1, 2)
	want.Fs.Inodes[0].Entries = want.Fs.Inodes[0].Entries[1:]
	want.Stash.Kept = slices.Insert(want.Stash.Kept, 0, api.Kept{Slot: 1, Ino: 2})
	want.Stash.Pool = slices.Insert(want.Stash.Pool, 0, api.Inode{Ino: 2, Kind: api.Dir})
	if e != api.OK {
		t.Errorf("Keep of a directory: %d", e)
	}
	expectSame(t, "Keep of a directory", got, want)

	w.Fs.MaxInodes, w.Fs.MaxBytes = 4, 5
	got, e = Give(w, 8, api.Spotted{Dir: 2, Name: "n"})
	want = plain()
	want.Fs.MaxInodes, want.Fs.MaxBytes = 4, 5
	want.Fs.Inodes = append(want.Fs.Inodes, api.Inode{Ino: 6, Kind: api.Dir, Links: 1, Parent: 2})
	want.Fs.Inodes[1].Entries = []api.Entry{{Name: "n", Ino: 6}}
	want.Stash.Kept = slices.Delete(want.Stash.Kept, 4, 5)
	want.Stash.Pool = slices.Delete(want.Stash.Pool, 1, 2)
	if e != api.OK {
		t.Errorf("Give of a directory: %d", e)
	}
	expectSame(t, "Give of a directory", got, want)

	got, e = Give(w, 12, api.Spotted{Dir: 1, Name: "f"})
	want = plain()
	want.Fs.MaxInodes, want.Fs.MaxBytes = 4, 5
	want.Fs.Inodes = slices.Insert(want.Fs.Inodes, 2, api.Inode{Ino: 3, Kind: api.File, Links: 1, Data: "abc"})
	want.Fs.Inodes[0].Entries = slices.Insert(want.Fs.Inodes[0].Entries, 1, api.Entry{Name: "f", Ino: 3})
	want.Stash.Kept = slices.Delete(want.Stash.Kept, 6, 7)
	want.Stash.Pool = want.Stash.Pool[1:]
	if e != api.OK {
		t.Errorf("Give of a file: %d", e)
	}
	expectSame(t, "Give of a file", got, want)

	got, e = KeepData(w, 3, 4)
	want = plain()
	want.Fs.MaxInodes, want.Fs.MaxBytes = 4, 5
	want.Stash.Kept = slices.Insert(want.Stash.Kept, 1, api.Kept{Slot: 3, Ino: 4, Content: true, Data: "xy"})
	if e != api.OK {
		t.Errorf("KeepData: %d", e)
	}
	expectSame(t, "KeepData", got, want)

	got, e = GiveData(w, 7)
	want = plain()
	want.Fs.MaxInodes, want.Fs.MaxBytes = 4, 5
	want.Fs.Inodes[2].Data = ""
	want.Stash.Kept = slices.Delete(want.Stash.Kept, 3, 4)
	if e != api.OK {
		t.Errorf("GiveData: %d", e)
	}
	expectSame(t, "GiveData", got, want)
}

func TestKeepEachEntry(t *testing.T) {
	count := 0
	for _, w := range []api.World{{Fs: tree()}, full(t)} {
		for _, p := range bares(w.Fs) {
			for _, slot := range []int{1, 2, 4, 7, 8, 10, 13, 19, 23, 24, 26, 1000, lastSlot - 1, lastSlot} {
				got := expectKept(t, w, slot, p)
				expectSame(t, "given back at once", expectGiven(t, got, slot, p), w)
				expectTaken(t, got, slot)
				count++
			}
		}
	}
	if count != 14*17 {
		t.Errorf("%d entries were kept", count)
	}
}

func TestKeepByLinksAndDots(t *testing.T) {
	// Where an entry stands may be told by layer 10, too.
	w := api.World{Fs: tree()}
	for p, plain := range map[string]string{"s/f": "/d/f", "d/e/../f": "/d/f", "/s/e/v/": "/d/e/v", "s": "/s", "a/": "/a", "./a/../b": "/b"} {
		spot, e := seek.Seek(w.Fs, "/", p, false)
		if e != api.OK {
			t.Fatalf("%q leads nowhere: %d", p, e)
		}
		got, e := Keep(w, 7, spot)
		if e != api.OK {
			t.Errorf("Keep of %q: %d", p, e)
		}
		expectSame(t, "Keep of "+p, got, expectKept(t, w, 7, plain))
		to, _ := seek.Seek(got.Fs, "/d/e", "../../q", false)
		back, e := Give(got, 7, to)
		if e != api.OK {
			t.Errorf("Give of %q: %d", p, e)
		}
		expectSame(t, "Give of "+p, back, expectGiven(t, got, 7, "/q"))
	}
}

func TestKeepInASlotThatIsTaken(t *testing.T) {
	w := full(t)
	for _, k := range w.Stash.Kept {
		expectTaken(t, w, k.Slot)
	}
	expectTaken(t, plain(), 2)
	expectTaken(t, plain(), 6)
	expectTaken(t, plain(), 13)
	for _, slot := range []int{1, lastSlot} {
		expectTaken(t, expectKept(t, api.World{Fs: tree()}, slot, "/a"), slot)
		expectTaken(t, expectDataKept(t, api.World{Fs: tree()}, slot, "/b"), slot)
	}
}

func TestEntriesOfOneFile(t *testing.T) {
	// The last entry that is kept, whichever it is, brings the file into the Pool; the first one that is given back brings it out.
	paths := []string{"/g", "/h", "/k"}
	start := api.World{Fs: tree()}
	orders(3, func(away []int) {
		w := start
		for i, n := range away {
			w = expectKept(t, w, 10+n, paths[n])
			if pooled := inode(w.Stash.Pool, 6).Ino == 6; pooled != (i == 2) || inode(w.Fs.Inodes, 6).Links != 2-i {
				t.Errorf("behind %v: %+v", away[:i+1], w)
			}
		}
		orders(3, func(back []int) {
			v := w
			for i, n := range back {
				v = expectGiven(t, v, 10+n, paths[n])
				if len(v.Stash.Pool) != 0 || inode(v.Fs.Inodes, 6).Links != i+1 {
					t.Errorf("behind %v, and %v back: %+v", away, back[:i+1], v)
				}
			}
			expectSame(t, "all given back", v, start)
		})
	})
}

// orders hands each order of the numbers below n to do.
func orders(n int, do func([]int)) {
	if n == 0 {
		do(nil)
		return
	}
	orders(n-1, func(l []int) {
		for i := range n {
			do(slices.Insert(slices.Clone(l), i, n-1))
		}
	})
}

func TestGiveEachEntryElsewhere(t *testing.T) {
	names := []string{"A", " ", "\x01", "...", "aa", "c", "dd", "g", "none", "zzz", "é", "\xff", strings.Repeat("n", 255)}
	for _, p := range bares(tree()) {
		w := expectKept(t, api.World{Fs: tree()}, 4, p)
		for _, dir := range []string{"", "/a", "/d", "/d/e", "/d/e/v"} {
			if dir == p {
				continue
			}
			for _, name := range names {
				if at(t, w.Fs, dir+"/"+name).Ino != 0 {
					continue
				}
				got := expectGiven(t, w, 4, dir+"/"+name)
				if x := inode(got.Fs.Inodes, at(t, got.Fs, dir+"/"+name).Ino); x.Kind == api.Dir && x.Parent != at(t, got.Fs, dir+"/"+name).Dir || x.Kind != api.Dir && x.Parent != 0 {
					t.Errorf("%q given back in %q: %+v", p, dir, x)
				}
				// And once more from there: another slot, the first place.
				again := expectKept(t, got, lastSlot, dir+"/"+name)
				expectSame(t, "and back", expectGiven(t, again, lastSlot, p), api.World{Fs: tree()})
			}
		}
	}
}

func TestGiveInADirectoryThatWasGivenBack(t *testing.T) {
	w := api.World{Fs: tree()}
	w = expectKept(t, w, 1, "/a")
	w = expectKept(t, w, 2, "/b")
	w = expectKept(t, w, 3, "/d/e/v")
	w = expectGiven(t, w, 1, "/d/n")
	w = expectGiven(t, w, 3, "/d/n/m")
	w = expectGiven(t, w, 2, "/d/n/m/b")
	for p, ino := range map[string]int{"/d/n": 9, "/d/n/m": 22, "/d/n/m/b": 4} {
		if spot := at(t, w.Fs, p); spot.Ino != ino {
			t.Errorf("%q leads to %+v", p, spot)
		}
	}
	if len(w.Stash.Kept)+len(w.Stash.Pool) != 0 {
		t.Errorf("kept: %+v", w.Stash)
	}
}

func TestGiveOfWhatIsNotKept(t *testing.T) {
	free := api.Spotted{Dir: 1, Name: "q"}
	w := roomFor(full(t), 9, 99)
	for _, slot := range []int{1, 2, 4, 7, 8, 10, 11, 13, 19, 23, 24, 26, 1000, lastSlot} {
		expectNotGiven(t, w, slot, free, api.ErrStash)
		expectNotGiven(t, api.World{Fs: tree()}, slot, free, api.ErrStash)
	}
	// Content is no entry.
	expectNotGiven(t, w, 6, free, api.ErrStash)
	expectNotGiven(t, w, 20, free, api.ErrStash)
	expectNotGiven(t, plain(), 7, free, api.ErrStash)
	// What was given back isn't kept any more.
	w = expectGiven(t, w, 3, "/q")
	expectNotGiven(t, w, 3, api.Spotted{Dir: 1, Name: "r"}, api.ErrStash)
}

// wrongNames answers names that may not be.
func wrongNames() []string {
	return []string{"", ".", "..", "/", "a/b", "/a", "a/", "\x00", "a\x00", "\x00a", strings.Repeat("n", 256), strings.Repeat("n", 5000)}
}

func TestGiveByNamesThatMayNotBe(t *testing.T) {
	w := roomFor(full(t), 9, 99)
	for _, slot := range []int{3, 5, 9, 12, 21, 22, 25} {
		for _, name := range wrongNames() {
			expectNotGiven(t, w, slot, api.Spotted{Dir: 1, Name: name}, api.ErrArg)
			expectNotGiven(t, w, slot, api.Spotted{Dir: 3, Name: name}, api.ErrArg)
		}
		expectGiven(t, w, slot, "/"+strings.Repeat("n", 255))
	}
	// As layer 10 tells them.
	spot, e := seek.Seek(w.Fs, "/d", "q\x00", false)
	if e != api.OK || spot != (api.Spotted{Dir: 3, Name: "q\x00"}) {
		t.Fatalf("Seek: %+v, %d", spot, e)
	}
	expectNotGiven(t, w, 3, spot, api.ErrArg)
}

func TestGiveOfDirectories(t *testing.T) {
	// A directory has one entry alone: what is kept of one that is in the file system isn't given back.
	w := roomFor(plain(), 9, 99)
	expectNotGiven(t, w, 13, api.Spotted{Dir: 1, Name: "q"}, api.ErrArg)
	expectNotGiven(t, w, 13, api.Spotted{Dir: 2, Name: "q"}, api.ErrArg)
	w.Stash.Kept[1].Ino = 2
	expectRight(t, "a directory of the file system, kept", w, true)
	expectNotGiven(t, w, 4, api.Spotted{Dir: 1, Name: "q"}, api.ErrArg)
	// One that two slots keep comes back by one of them.
	w = plain()
	w.Fs.MaxInodes = 4
	w.Stash.Kept[1].Ino = 6
	expectRight(t, "a directory kept twice", w, true)
	one := expectGiven(t, w, 4, "/q")
	expectNotGiven(t, one, 8, api.Spotted{Dir: 1, Name: "r"}, api.ErrArg)
	expectNotGiven(t, one, 8, api.Spotted{Dir: 6, Name: "r"}, api.ErrArg)
	two := expectGiven(t, w, 8, "/q")
	expectNotGiven(t, two, 4, api.Spotted{Dir: 1, Name: "r"}, api.ErrArg)
	// Kept once more it comes back by either.
	again := expectKept(t, one, 30, "/q")
	expectGiven(t, again, 8, "/d/r")
	expectGiven(t, again, 30, "/d/r")
}

func TestGiveWhereThereIsNoRoom(t *testing.T) {
	for p, bytes := range map[string]int{"/b": 3, "/empty": 0, "/a": 0, "/d/t": 0, "/d/e/v": 0} {
		w := expectKept(t, api.World{Fs: tree()}, 4, p)
		free := api.Spotted{Dir: 3, Name: "q"}
		for inodes := range 3 {
			for more := range bytes + 2 {
				v := roomFor(w, inodes, more)
				if inodes == 0 || more < bytes {
					expectNotGiven(t, v, 4, free, api.ErrSpace)
				} else {
					expectGiven(t, v, 4, "/d/q")
				}
			}
		}
	}
}

func TestGiveTakesNoRoomOfWhatIsThere(t *testing.T) {
	// An entry more of a file or a link that is in the file system takes neither an inode nor a byte.
	for _, p := range []string{"/g", "/h", "/d/f", "/d/e/f", "/s", "/d/e/s"} {
		w := roomFor(expectKept(t, api.World{Fs: tree()}, 4, p), 0, 0)
		expectGiven(t, w, 4, p)
		expectGiven(t, w, 4, "/q")
	}
}

func TestRoomIsFreeOfWhatIsKept(t *testing.T) {
	// Where a file was kept another one fits, and it itself doesn't any more.
	w := expectKept(t, api.World{Fs: tree()}, 4, "/b")
	if len(w.Fs.Inodes) != w.Fs.MaxInodes-1 || used(w.Fs.Inodes) != w.Fs.MaxBytes-3 {
		t.Errorf("%d inodes and %d bytes are used of %d and %d", len(w.Fs.Inodes), used(w.Fs.Inodes), w.Fs.MaxInodes, w.Fs.MaxBytes)
	}
	full := written(w, 5, "123")
	expectRight(t, "another file written", full, true)
	expectNotGiven(t, full, 4, api.Spotted{Dir: 1, Name: "b"}, api.ErrSpace)
	expectGiven(t, written(full, 5, ""), 4, "/b")
	more := expectKept(t, full, 9, "/empty")
	expectGiven(t, more, 4, "/b")
}

func TestErrorsInTheirOrder(t *testing.T) {
	// There is no room, the names may not be, and directories are in the file system.
	w := roomFor(plain(), 0, 0)
	for _, name := range append(wrongNames(), "q") {
		spot := api.Spotted{Dir: 1, Name: name}
		for _, slot := range []int{1, 3, 14, lastSlot} {
			expectNotGiven(t, w, slot, spot, api.ErrStash)
		}
		expectNotGiven(t, w, 6, spot, api.ErrStash)
		expectNotGiven(t, w, 7, spot, api.ErrStash)
		expectNotGiven(t, w, 13, spot, api.ErrArg)
		for _, slot := range []int{2, 8, 11, 12} {
			want := api.ErrArg
			if name == "q" {
				want = api.ErrSpace
			}
			expectNotGiven(t, w, slot, spot, want)
		}
	}
	// Content, of a file that isn't in the file system, for which there is no room.
	expectDataNotGiven(t, w, 6, api.ErrStash)
	expectDataNotGiven(t, w, 2, api.ErrStash)
	expectDataNotGiven(t, w, 4, api.ErrStash)
}

// P21.3

func TestKeepDataOfEachFile(t *testing.T) {
	count := 0
	for _, w := range []api.World{{Fs: tree()}, full(t)} {
		for _, x := range w.Fs.Inodes {
			if x.Kind != api.File {
				continue
			}
			p := walk.Paths(w.Fs, x.Ino)[0]
			for _, slot := range []int{1, 2, 4, 7, 8, 10, 13, 19, 23, 24, 26, 1000, lastSlot - 1, lastSlot} {
				got := expectDataKept(t, w, slot, p)
				if !reflect.DeepEqual(copied(got).Fs, copied(w).Fs) {
					t.Errorf("KeepData of %q changed the file system", p)
				}
				expectSame(t, "given back at once", expectDataGiven(t, got, slot), w)
				expectTaken(t, got, slot)
				count++
			}
		}
	}
	if count != 14*6 {
		t.Errorf("%d contents were kept", count)
	}
}

func TestDataWrittenInBetween(t *testing.T) {
	for _, first := range []string{"", "a", "abc", "\x00\xff", strings.Repeat("x", 100)} {
		for _, then := range []string{"", "b", "abcd", "\xff\x00", strings.Repeat("y", 100)} {
			start := roomFor(written(api.World{Fs: tree()}, 7, first), 0, 100)
			w := expectDataKept(t, start, 8, "/d/f")
			w = written(w, 7, then)
			w.Fs.MaxBytes = max(start.Fs.MaxBytes, used(w.Fs.Inodes))
			if k, _ := Find(w, 8); k.Data != first {
				t.Errorf("%q is kept, not %q", k.Data, first)
			}
			back := expectDataGiven(t, w, 8)
			start.Fs.MaxBytes = w.Fs.MaxBytes
			expectSame(t, "given back", back, start)
		}
	}
}

func TestGiveDataWhereThereIsNoRoom(t *testing.T) {
	for _, then := range []string{"", "1", "12", "123", "1234"} {
		// The file b holds abc.
		w := written(expectDataKept(t, api.World{Fs: tree()}, 8, "/b"), 4, then)
		for more := range 6 {
			v := roomFor(w, 0, more)
			if len(then)+more < 3 {
				expectDataNotGiven(t, v, 8, api.ErrSpace)
			} else {
				expectDataGiven(t, v, 8)
			}
		}
	}
}

func TestGiveDataOfWhatIsNotKept(t *testing.T) {
	w := full(t)
	for _, slot := range []int{1, 2, 4, 7, 8, 10, 11, 13, 19, 23, 24, 26, 1000, lastSlot} {
		expectDataNotGiven(t, w, slot, api.ErrStash)
		expectDataNotGiven(t, api.World{Fs: tree()}, slot, api.ErrStash)
	}
	// An entry is no content.
	for _, slot := range []int{3, 5, 9, 12, 21, 22, 25} {
		expectDataNotGiven(t, w, slot, api.ErrStash)
	}
	got := expectDataGiven(t, w, 6)
	expectDataNotGiven(t, got, 6, api.ErrStash)
}

func TestDataOfAFileOfThePool(t *testing.T) {
	start := api.World{Fs: tree()}
	w := expectDataKept(t, start, 20, "/b")
	w = expectKept(t, w, 21, "/b")
	if inode(w.Stash.Pool, 4).Data != "abc" {
		t.Fatalf("the Pool: %+v", w.Stash.Pool)
	}
	expectDataNotGiven(t, w, 20, api.ErrStash)
	expectDataNotGiven(t, roomFor(w, 9, 99), 20, api.ErrStash)
	// Once an entry of it is given back its content is, too.
	back := expectGiven(t, w, 21, "/d/q")
	back = written(back, 4, "")
	back = expectDataGiven(t, back, 20)
	if x := inode(back.Fs.Inodes, 4); x.Data != "abc" || x.Links != 1 {
		t.Errorf("given back: %+v", x)
	}
	// Kept ahead of what was written, the Pool has the later one.
	v := expectDataKept(t, start, 3, "/b")
	v = written(v, 4, "x")
	v = expectKept(t, v, 5, "/b")
	if inode(v.Stash.Pool, 4).Data != "x" {
		t.Errorf("the Pool: %+v", v.Stash.Pool)
	}
	expectDataNotGiven(t, v, 3, api.ErrStash)
	v = expectGiven(t, v, 5, "/b")
	expectSame(t, "both given back", expectDataGiven(t, v, 3), start)
}

func TestContentsOfOneFile(t *testing.T) {
	// Each slot has the content that there was when it was kept.
	w := api.World{Fs: tree()}
	texts := []string{"abc", "", "x", "xyz", "12"}
	for i, text := range texts {
		w = written(w, 4, text)
		w = expectDataKept(t, w, 10*(i+1), "/b")
	}
	for i, text := range slices.Backward(texts) {
		w = expectDataGiven(t, w, 10*(i+1))
		if x := inode(w.Fs.Inodes, 4); x.Data != text {
			t.Errorf("given back of %d: %q, not %q", 10*(i+1), x.Data, text)
		}
	}
	expectSame(t, "all given back", w, api.World{Fs: tree()})
}

// P21.4

// grow hands each tree of the lines, and of more of them, so many in all, to do.
func grow(lines []line, most int, do func(api.Fs)) {
	do(treeOf(lines...))
	if len(lines) == most {
		return
	}
	dirs := []string{""}
	var others []line
	for _, l := range lines {
		if l.kind == api.Dir {
			dirs = append(dirs, l.path)
		} else {
			others = append(others, l)
		}
	}
	name, ino := []string{"a", "b", "c", "d"}[len(lines)], 9-len(lines)
	for _, dir := range dirs {
		p := dir + "/" + name
		more := []line{{p, api.Dir, ino, ""}, {p, api.File, ino, "abc"}, {p, api.Sym, ino, "a"}}
		for _, l := range others {
			more = append(more, line{p, l.kind, l.ino, l.data})
		}
		for _, l := range more {
			grow(append(slices.Clone(lines), l), most, do)
		}
	}
}

// goes hands the world, and each one to which at most so many calls lead, to do; each call is held against the chapter's words.
func goes(t *testing.T, w api.World, most int, do func(api.World)) {
	do(w)
	if most == 0 {
		return
	}
	check := func(what string, got, want api.World, e, wantErr api.Errno) {
		if e != wantErr || !alike(got, want) {
			t.Fatalf("%s of %+v: %+v, %d, not %+v, %d", what, w, got, e, want, wantErr)
		}
		if e == api.OK {
			goes(t, got, most-1, do)
		}
	}
	for slot := 1; slot <= 3; slot++ {
		for _, p := range bares(w.Fs) {
			spot, _ := place.At(w.Fs, p)
			want, wantErr := entryKept(w, slot, spot)
			got, e := Keep(w, slot, spot)
			check(fmt.Sprintf("Keep of %q in %d", p, slot), got, want, e, wantErr)
		}
		for _, x := range w.Fs.Inodes {
			named := slices.ContainsFunc(x.Entries, func(e api.Entry) bool { return e.Name == "n" })
			switch {
			case x.Kind == api.File:
				want, wantErr := contentKept(w, slot, x.Ino)
				got, e := KeepData(w, slot, x.Ino)
				check(fmt.Sprintf("KeepData of %d in %d", x.Ino, slot), got, want, e, wantErr)
			case x.Kind == api.Dir && !named:
				spot := api.Spotted{Dir: x.Ino, Name: "n"}
				want, wantErr := entryGiven(w, slot, spot)
				got, e := Give(w, slot, spot)
				check(fmt.Sprintf("Give of %d in %d", slot, x.Ino), got, want, e, wantErr)
			}
		}
		want, wantErr := contentGiven(w, slot)
		got, e := GiveData(w, slot)
		check(fmt.Sprintf("GiveData of %d", slot), got, want, e, wantErr)
	}
}

func TestRightBehindEachCall(t *testing.T) {
	trees, worlds := 0, 0
	grow(nil, 3, func(f api.Fs) {
		trees++
		goes(t, api.World{Fs: f}, 3, func(w api.World) {
			worlds++
			if !right(w) || !Right(w) {
				t.Fatalf("%+v isn't right", w)
			}
		})
	})
	if trees < 100 || worlds < 40000 {
		t.Errorf("%d worlds of %d trees", worlds, trees)
	}
}

func TestKeptAndGivenBackInTheTurnedOrder(t *testing.T) {
	trees, whole := 0, 0
	grow(nil, 4, func(f api.Fs) {
		trees++
		start := api.World{Fs: f}
		// All entries go, from behind, so that directories have none when their turn comes; each file's content is kept ahead of it.
		var worlds []api.World
		var back []func(api.World) (api.World, api.Errno)
		w, slot := start, 0
		for _, seen := range slices.Backward(walk.List(f)) {
			if seen.Ino == 1 {
				continue
			}
			if inode(w.Fs.Inodes, seen.Ino).Kind == api.File {
				slot += 7
				n := slot
				worlds = append(worlds, w)
				w = expectDataKept(t, w, n, seen.Path)
				back = append(back, func(w api.World) (api.World, api.Errno) { return GiveData(w, n) })
			}
			slot += 5
			n, spot := slot, at(t, w.Fs, seen.Path)
			spot.Ino = 0
			worlds = append(worlds, w)
			w = expectKept(t, w, n, seen.Path)
			back = append(back, func(w api.World) (api.World, api.Errno) { return Give(w, n, spot) })
		}
		if len(w.Fs.Inodes) != 1 || len(w.Stash.Pool) != len(f.Inodes)-1 {
			t.Fatalf("behind all: %+v", w)
		}
		for i, give := range slices.Backward(back) {
			var e api.Errno
			if w, e = give(w); e != api.OK || !alike(w, worlds[i]) {
				t.Fatalf("back to %d: %+v, %d, not %+v", i, w, e, worlds[i])
			}
		}
		expectSame(t, "all given back", w, start)
		whole++
	})
	if trees < 500 || whole != trees {
		t.Errorf("%d of %d trees", whole, trees)
	}
}

func TestGivenBackInAnyOrder(t *testing.T) {
	// Files and links come back whole in whatever order, as long as their directories are there.
	f := treeOf(line{"/b", api.File, 4, "abc"}, line{"/c", api.File, 4, "abc"}, line{"/d", api.Dir, 3, ""}, line{"/d/s", api.Sym, 5, "b"}, line{"/e", api.File, 6, ""})
	paths := []string{"/b", "/c", "/d/s", "/e"}
	orders(4, func(away []int) {
		w := api.World{Fs: f}
		for _, n := range away {
			w = expectKept(t, w, n+1, paths[n])
		}
		orders(4, func(back []int) {
			v := w
			for _, n := range back {
				v = expectGiven(t, v, n+1, paths[n])
			}
			expectSame(t, "all given back", v, api.World{Fs: f})
		})
	})
}

func TestManySlots(t *testing.T) {
	var lines []line
	for i := range 200 {
		lines = append(lines, line{fmt.Sprintf("/%03d", i), []int{api.File, api.Dir, api.Sym}[i%3], i + 2, []string{"abc", "", "x"}[i%3]})
	}
	start := api.World{Fs: treeOf(lines...)}
	w := start
	// Neither slots nor numbers come in their order.
	for i := range 200 {
		n := i * 73 % 200
		w, _ = Keep(w, 1+i*57%200, at(t, w.Fs, lines[n].path))
	}
	expectRight(t, "200 slots", w, true)
	if len(w.Stash.Kept) != 200 || len(w.Stash.Pool) != 200 || len(w.Fs.Inodes) != 1 {
		t.Fatalf("%d slots, %d inodes in the Pool", len(w.Stash.Kept), len(w.Stash.Pool))
	}
	for i := range 200 {
		n := i * 73 % 200
		w, _ = Give(w, 1+i*57%200, at(t, w.Fs, lines[n].path))
	}
	expectSame(t, "all given back", w, start)
}

// P21.5

// roomyInodes answers the inodes in lists of their own, each with room behind it that isn't empty.
func roomyInodes(l []api.Inode) []api.Inode {
	behind := api.Entry{Name: "zzz", Ino: 77}
	l = copiedInodes(l)
	for i, x := range l {
		l[i].Entries = append(x.Entries, behind, behind, behind)[:len(x.Entries)]
	}
	last := api.Inode{Ino: 77, Kind: api.File, Links: 8, Data: "behind"}
	return append(l, last, last, last)[:len(l)]
}

// roomy answers the world in lists of its own, each with room behind it that isn't empty.
func roomy(w api.World) api.World {
	w.Fs.Inodes = roomyInodes(w.Fs.Inodes)
	w.Stash.Pool = roomyInodes(w.Stash.Pool)
	last := api.Kept{Slot: 77, Ino: 1, Data: "behind"}
	w.Stash.Kept = append(slices.Clone(w.Stash.Kept), last, last, last)[:len(w.Stash.Kept)]
	return w
}

// whollyInodes answers the inodes, with the room behind them and their entries laid open.
func whollyInodes(l []api.Inode) []api.Inode {
	l = slices.Clone(l[:cap(l)])
	for i, x := range l {
		l[i].Entries = x.Entries[:cap(x.Entries)]
	}
	return copiedInodes(l)
}

// wholly answers the world with the room behind its lists laid open.
func wholly(w api.World) api.World {
	w.Fs.Inodes = whollyInodes(w.Fs.Inodes)
	w.Stash.Pool = whollyInodes(w.Stash.Pool)
	w.Stash.Kept = slices.Clone(w.Stash.Kept[:cap(w.Stash.Kept)])
	return w
}

// callAll does each call with the world, and hands each world that is answered to do.
func callAll(w api.World, do func(api.World)) {
	for slot := range 30 {
		for _, seen := range walk.List(w.Fs) {
			if x := inode(w.Fs.Inodes, seen.Ino); len(x.Entries) == 0 && x.Ino != 1 {
				spot, _ := place.At(w.Fs, seen.Path)
				got, _ := Keep(w, slot, spot)
				do(got)
			}
		}
		for _, x := range w.Fs.Inodes {
			if x.Kind == api.File {
				got, _ := KeepData(w, slot, x.Ino)
				do(got)
			}
			if x.Kind == api.Dir {
				for _, name := range []string{"A", "q", "zzz", "\x00"} {
					got, _ := Give(w, slot, api.Spotted{Dir: x.Ino, Name: name})
					do(got)
				}
			}
		}
		got, _ := GiveData(w, slot)
		do(got)
		Find(w, slot)
	}
	do(Purge(w))
	Right(w)
	Same(w, w)
}

func TestHandedInStays(t *testing.T) {
	for _, w := range []api.World{roomFor(full(t), 9, 99), full(t), roomFor(plain(), 9, 99)} {
		w = roomy(w)
		before := wholly(w)
		callAll(w, func(got api.World) {
			// What is made of the new one may not show in the old one either.
			was := copied(got)
			for _, k := range got.Stash.Kept {
				Give(got, k.Slot, api.Spotted{Dir: 1, Name: "new"})
				GiveData(got, k.Slot)
			}
			for _, p := range bares(got.Fs)[:1] {
				spot, _ := place.At(got.Fs, p)
				Keep(got, 40, spot)
				Keep(got, 1, spot)
			}
			Purge(got)
			if !alike(got, was) {
				t.Fatalf("answered: %+v, not %+v", got, was)
			}
		})
		if after := wholly(w); !reflect.DeepEqual(after, before) {
			t.Fatalf("handed in: %+v, not %+v", after, before)
		}
	}
}

func TestWhatWasAnsweredStays(t *testing.T) {
	// Two that are made of one may not write into each other, nor into what they are made of.
	w := roomFor(full(t), 9, 99)
	var all, was []api.World
	callAll(w, func(got api.World) {
		all = append(all, got)
		was = append(was, copied(got))
	})
	for i := range all {
		if !alike(all[i], was[i]) {
			t.Fatalf("answered: %+v, not %+v", all[i], was[i])
		}
	}
}

func TestRoomIsNotGoneThrough(t *testing.T) {
	w := roomy(roomFor(full(t), 9, 99))
	expectRight(t, "a world with room behind its lists", w, true)
	if k, there := Find(w, 77); there {
		t.Errorf("Find behind what is kept: %+v", k)
	}
	expectNotGiven(t, w, 77, api.Spotted{Dir: 1, Name: "q"}, api.ErrStash)
	expectDataNotGiven(t, w, 77, api.ErrStash)
	expectKept(t, w, 77, "/a")
	expectDataKept(t, w, 77, "/h")
	expectGiven(t, w, 9, "/zzz")
	expectGiven(t, w, 3, "/a/zzz")
	if !Same(w, copied(w)) || !Same(copied(w), w) {
		t.Error("Same goes through the room behind the lists")
	}
	expectSame(t, "Purge", Purge(w), api.World{Fs: w.Fs})
}

// shares tells whether two texts have memory in common.
func shares(a, b string) bool {
	if a == "" || b == "" {
		return false
	}
	x, y := uintptr(unsafe.Pointer(unsafe.StringData(a))), uintptr(unsafe.Pointer(unsafe.StringData(b)))
	return x < y+uintptr(len(b)) && y < x+uintptr(len(a))
}

func TestTextsAreNotKept(t *testing.T) {
	w := roomFor(full(t), 9, 99)
	k, _ := Find(w, 6)
	again, _ := Find(w, 6)
	content, _ := isKept(w, 6)
	if shares(k.Data, content.Data) || shares(k.Data, again.Data) {
		t.Error("Find answers the memory of what is kept")
	}
	x, _ := KeepData(w, 1, 6)
	k, _ = isKept(x, 1)
	if shares(k.Data, inode(w.Fs.Inodes, 6).Data) {
		t.Error("KeepData keeps the memory of the file's Data")
	}
	x, _ = GiveData(w, 6)
	if data := inode(x.Fs.Inodes, 6).Data; shares(data, content.Data) || data != "xy" {
		t.Error("GiveData gives the memory of what is kept")
	}
	x, _ = Keep(w, 1, api.Spotted{Dir: 1, Name: "empty", Ino: 5})
	x, _ = Keep(written(w, 5, "long"), 1, api.Spotted{Dir: 1, Name: "empty", Ino: 5})
	if data := inode(x.Stash.Pool, 5).Data; data != "long" || shares(data, inode(w.Fs.Inodes, 5).Data) {
		t.Error("Keep keeps the memory of the file's Data")
	}
	name := strings.Repeat("q", 9)
	x, _ = Give(w, 3, api.Spotted{Dir: 1, Name: name})
	for _, e := range inode(x.Fs.Inodes, 1).Entries {
		if shares(e.Name, name) {
			t.Error("Give keeps the memory of the name")
		}
	}
	if data := inode(x.Fs.Inodes, 4).Data; data != "abc" || shares(data, inode(w.Stash.Pool, 4).Data) {
		t.Error("Give gives the memory of the Pool's Data")
	}
}

// The rules that hold everywhere

func TestWhateverIsHandedInIsAnswered(t *testing.T) {
	// Of such worlds, slots and places nothing is promised but that the calls end, and leave what is handed in.
	worlds := []api.World{{}, {Stash: plain().Stash}, {Fs: tree(), Stash: plain().Stash}}
	for _, c := range slices.Concat(slotChanges(), poolChanges(), fsChanges()) {
		w := plain()
		c.do(&w)
		worlds = append(worlds, w)
	}
	numbers := []int{math.MinInt, -1, 0, 1, 2, 3, 4, 6, 9, 20, 99, math.MaxInt}
	for _, w := range worlds {
		before := copied(w)
		for _, slot := range append(numbers, 8, 11, 12, 13, lastSlot, lastSlot+1) {
			for _, ino := range numbers {
				for _, name := range []string{"", "d", "g", "q", "\x00"} {
					for _, dir := range []int{-1, 0, 1, 2, 4, 99} {
						Keep(w, slot, api.Spotted{Dir: dir, Name: name, Ino: ino})
						Give(w, slot, api.Spotted{Dir: dir, Name: name, Ino: ino})
					}
				}
				KeepData(w, slot, ino)
			}
			GiveData(w, slot)
			Find(w, slot)
		}
		Purge(w)
		Right(w)
		for _, v := range worlds {
			if Same(w, v) != alike(w, v) {
				t.Errorf("Same of %+v and %+v", w, v)
			}
		}
		if !alike(w, before) {
			t.Errorf("handed in: %+v, not %+v", w, before)
		}
	}
}
