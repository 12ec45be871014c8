package data

import (
	"cmp"
	"fmt"
	"math"
	"reflect"
	"slices"
	"strings"
	"testing"
	"unsafe"

	"drayman/api"
	"drayman/room"
	"drayman/seek"
	"drayman/sound"
	"drayman/table"
	"drayman/walk"
)

// line is an entry of a tree: where it stands, and the inode that it names, whose Data are of a file or a link alone.
type line struct {
	path string
	kind int
	ino  int
	data string
}

// treeOf answers the file system of these entries, a directory's own ahead of those in it, with room for so many bytes and no inode more.
func treeOf(bytes int, lines ...line) api.Fs {
	inodes := map[int]*api.Inode{1: {Ino: 1, Kind: api.Dir, Parent: 1}}
	dirs := map[string]*api.Inode{"": inodes[1]}
	f := api.Fs{MaxBytes: bytes, Next: 2}
	for _, l := range lines {
		cut := strings.LastIndexByte(l.path, '/')
		dir := dirs[l.path[:cut]]
		dir.Entries = append(dir.Entries, api.Entry{Name: l.path[cut+1:], Ino: l.ino})
		if inodes[l.ino] == nil {
			inodes[l.ino] = &api.Inode{Ino: l.ino, Kind: l.kind, Data: l.data}
		}
		inodes[l.ino].Links++
		if l.kind == api.Dir {
			inodes[l.ino].Parent = dir.Ino
			dirs[l.path] = inodes[l.ino]
		}
		f.Next = max(f.Next, l.ino+1)
	}
	for _, x := range inodes {
		slices.SortFunc(x.Entries, func(a, b api.Entry) int { return cmp.Compare(a.Name, b.Name) })
		f.Inodes = append(f.Inodes, *x)
	}
	slices.SortFunc(f.Inodes, func(x, y api.Inode) int { return cmp.Compare(x.Ino, y.Ino) })
	f.MaxInodes = len(f.Inodes)
	return f
}

// everyByte answers a text of each byte once.
func everyByte() string {
	l := make([]byte, 256)
	for i := range l {
		l[i] = byte(i)
	}
	return string(l)
}

// longText answers more bytes than a path may have.
func longText() string { return strings.Repeat("long\n", 4000) }

// tree answers a file system of directories in one another, one of them without entries, files of none and of several Data, one of them of three names, and links: to directories, to files, to links, to nothing, to themselves, to paths that are too long.
func tree() api.Fs {
	f := treeOf(1<<16,
		line{"/a", api.Dir, 9, ""},
		line{"/b", api.File, 4, "abc"},
		line{"/big", api.File, 28, longText()},
		line{"/d", api.Dir, 3, ""},
		line{"/d/e", api.Dir, 12, ""},
		line{"/d/e/f", api.File, 7, "\x00\xffdata"},
		line{"/d/e/tob", api.Sym, 33, "../../b"},
		line{"/d/e/up", api.Sym, 20, ".."},
		line{"/d/f", api.File, 7, "\x00\xffdata"},
		line{"/d/g", api.File, 7, "\x00\xffdata"},
		line{"/d/here", api.Sym, 19, "."},
		line{"/d/s", api.Sym, 8, "/d/e"},
		line{"/d/tof", api.Sym, 34, "f"},
		line{"/dead", api.Sym, 13, "d/none"},
		line{"/deads", api.Sym, 14, "none/"},
		line{"/deep", api.Sym, 15, "none/x"},
		line{"/empty", api.File, 5, ""},
		line{"/every", api.File, 6, everyByte()},
		line{"/far", api.Sym, 27, "/d/s/f"},
		line{"/it", api.Sym, 29, "me2"},
		line{"/long", api.Sym, 16, strings.Repeat("n", 256)},
		line{"/me", api.Sym, 17, "me"},
		line{"/me2", api.Sym, 30, "it"},
		line{"/r", api.Sym, 11, "/"},
		line{"/s", api.Sym, 10, "d/"},
		line{"/slash", api.Sym, 31, "b/"},
		line{"/t", api.Sym, 10, "d/"},
		line{"/through", api.Sym, 32, "b/x"},
		line{"/tob", api.Sym, 21, "b"},
		line{"/todead", api.Sym, 22, "dead"},
		line{"/toempty", api.Sym, 26, "empty"},
		line{"/tome", api.Sym, 23, "me"},
		line{"/tos", api.Sym, 24, "s"},
		line{"/totob", api.Sym, 25, "tob"},
	)
	f.Next = 40
	return f
}

// copied answers the file system in lists of its own, those that are empty as nil.
func copied(f api.Fs) api.Fs {
	var inodes []api.Inode
	for _, x := range f.Inodes {
		inodes = append(inodes, copiedInode(x))
	}
	f.Inodes = inodes
	return f
}

// copiedInode answers the inode with a list of its own, nil, if it is empty.
func copiedInode(x api.Inode) api.Inode {
	x.Entries = append([]api.Entry(nil), x.Entries...)
	return x
}

// alike tells whether two file systems read alike.
func alike(f, g api.Fs) bool { return reflect.DeepEqual(copied(f), copied(g)) }

// inode answers the file system's inode of that number; none, if there is none.
func inode(f api.Fs, ino int) api.Inode {
	for _, x := range f.Inodes {
		if x.Ino == ino {
			return x
		}
	}
	return api.Inode{}
}

// used answers how many bytes the file system's files hold.
func used(f api.Fs) int {
	n := 0
	for _, x := range f.Inodes {
		if x.Kind == api.File {
			n += len(x.Data)
		}
	}
	return n
}

// changed answers, of the chapter's words alone, what Set does.
func changed(f api.Fs, ino int, data string) (api.Fs, api.Errno) {
	if used(f)-len(inode(f, ino).Data)+len(data) > f.MaxBytes {
		return f, api.ErrSpace
	}
	f = copied(f)
	for i, x := range f.Inodes {
		if x.Ino == ino {
			f.Inodes[i].Data = data
		}
	}
	return f, api.OK
}

// end is where a path leads: to the inode of a number, or to an error.
type end struct {
	ino int
	e   api.Errno
}

// ended answers, of the chapter's words alone, where the path leads Stat.
func ended(f api.Fs, base, p string, follow bool) end {
	at, e := seek.Seek(f, base, p, follow)
	if e != api.OK {
		return end{0, e}
	}
	if at.Ino == 0 {
		return end{0, api.ErrNone}
	}
	return end{at.Ino, api.OK}
}

// expectSound asks whether the file system is sound.
func expectSound(t *testing.T, f api.Fs) {
	t.Helper()
	if n := sound.Check(f); n != 0 {
		t.Fatalf("%.300s isn't sound: rule %d", fmt.Sprint(f), n)
	}
}

// expectChanged asks whether got and e are what becomes of f by these Data for the file, and whether what was there, written back, makes it as it was.
func expectChanged(t *testing.T, what string, f, got api.Fs, e api.Errno, ino int, data string) {
	t.Helper()
	want, wantErr := changed(f, ino, data)
	if e != wantErr || !alike(got, want) {
		t.Errorf("%s: %.300s, %d, not %.300s, %d", what, fmt.Sprint(got), e, fmt.Sprint(want), wantErr)
		return
	}
	expectSound(t, got)
	if !slices.Equal(walk.List(got), walk.List(f)) {
		t.Errorf("%s: the walk is %v, not %v", what, walk.List(got), walk.List(f))
	}
	if back, e := Set(got, ino, inode(f, ino).Data); e != api.OK || !alike(back, f) {
		t.Errorf("%s, and back: %.300s, %d, not %.300s", what, fmt.Sprint(back), e, fmt.Sprint(f))
	}
}

// expectSet asks Set for what the chapter says.
func expectSet(t *testing.T, f api.Fs, ino int, data string) {
	t.Helper()
	got, e := Set(f, ino, data)
	expectChanged(t, fmt.Sprintf("Set of %d to %.60q", ino, data), f, got, e, ino, data)
}

// expectStat asks Stat for the inode, or for the error.
func expectStat(t *testing.T, f api.Fs, base, p string, follow bool, want end) {
	t.Helper()
	got, e := Stat(f, base, p, follow)
	if e != want.e || !reflect.DeepEqual(copiedInode(got), copiedInode(inode(f, want.ino))) {
		t.Errorf("Stat of %.60q from %.60q, %t: %.300s, %d, not %v", p, base, follow, fmt.Sprint(got), e, want)
	}
}

// expectRead asks Read for the Data of the file, or for the error.
func expectRead(t *testing.T, f api.Fs, base, p string, want end) {
	t.Helper()
	x, wantErr := inode(f, want.ino), want.e
	if x.Kind == api.Dir {
		x.Data, wantErr = "", api.ErrIsDir
	}
	if got, e := Read(f, base, p); got != x.Data || e != wantErr {
		t.Errorf("Read of %.60q from %.60q: %.60q, %d, not %.60q, %d", p, base, got, e, x.Data, wantErr)
	}
}

// expectReadlink asks Readlink for the target of the link, or for the error.
func expectReadlink(t *testing.T, f api.Fs, base, p string, want end) {
	t.Helper()
	x, wantErr := inode(f, want.ino), want.e
	if want.e == api.OK && x.Kind != api.Sym {
		x.Data, wantErr = "", api.ErrArg
	}
	if got, e := Readlink(f, base, p); got != x.Data || e != wantErr {
		t.Errorf("Readlink of %.60q from %.60q: %.60q, %d, not %.60q, %d", p, base, got, e, x.Data, wantErr)
	}
}

// expectWrite asks Write of these Data for what becomes of the file, or for the error, and Read for what was written.
func expectWrite(t *testing.T, f api.Fs, base, p, data string, want end) {
	t.Helper()
	got, e := Write(f, base, p, data)
	what := fmt.Sprintf("Write of %.60q from %.60q of %.60q", p, base, data)
	if inode(f, want.ino).Kind == api.File {
		expectChanged(t, what, f, got, e, want.ino, data)
		if read, readErr := Read(got, base, p); e == api.OK && (read != data || readErr != api.OK) {
			t.Errorf("%s is read as %.60q, %d", what, read, readErr)
		}
		return
	}
	wantErr := want.e
	if want.e == api.OK {
		wantErr = api.ErrIsDir
	}
	if e != wantErr || !alike(got, f) {
		t.Errorf("%s: %.300s, %d, not as it was, %d", what, fmt.Sprint(got), e, wantErr)
	}
}

// expectEnds asks each call for what the path leads to: here without following, there with it.
func expectEnds(t *testing.T, f api.Fs, base, p string, here, there end) {
	t.Helper()
	expectStat(t, f, base, p, false, here)
	expectStat(t, f, base, p, true, there)
	expectRead(t, f, base, p, there)
	expectReadlink(t, f, base, p, here)
	expectWrite(t, f, base, p, "new", there)
	expectWrite(t, f, base, p, "", there)
}

// expectErr asks each call for the error of the path.
func expectErr(t *testing.T, f api.Fs, base, p string, want api.Errno) {
	t.Helper()
	expectEnds(t, f, base, p, end{0, want}, end{0, want})
}

// P13.1, and P13.2's Write

func TestChaptersExample(t *testing.T) {
	f := treeOf(9, line{"/f", api.File, 2, "abc"}, line{"/s", api.Sym, 3, "f"})
	want := treeOf(9, line{"/f", api.File, 2, "xy"}, line{"/s", api.Sym, 3, "f"})
	got, e := Write(f, "/", "s", "xy")
	if e != api.OK || !alike(got, want) {
		t.Errorf("Write through the link: %+v, %d, not %+v", got, e, want)
	}
	for _, p := range []string{"f", "s"} {
		if data, e := Read(got, "/", p); data != "xy" || e != api.OK {
			t.Errorf("%q is read as %q, %d", p, data, e)
		}
	}
	if target, e := Readlink(got, "/", "s"); target != "f" || e != api.OK {
		t.Errorf("the link's target is %q, %d", target, e)
	}
}

func TestWrittenOut(t *testing.T) {
	f := treeOf(9, line{"/d", api.Dir, 2, ""}, line{"/d/f", api.File, 5, "abc"}, line{"/g", api.File, 5, "abc"}, line{"/s", api.Sym, 3, "d"})
	for _, x := range []struct {
		p      string
		follow bool
		want   api.Inode
		e      api.Errno
	}{
		{"/", false, api.Inode{Ino: 1, Kind: api.Dir, Parent: 1, Entries: []api.Entry{{Name: "d", Ino: 2}, {Name: "g", Ino: 5}, {Name: "s", Ino: 3}}}, api.OK},
		{"d", false, api.Inode{Ino: 2, Kind: api.Dir, Links: 1, Parent: 1, Entries: []api.Entry{{Name: "f", Ino: 5}}}, api.OK},
		{"g", true, api.Inode{Ino: 5, Kind: api.File, Links: 2, Data: "abc"}, api.OK},
		{"s", false, api.Inode{Ino: 3, Kind: api.Sym, Links: 1, Data: "d"}, api.OK},
		{"s", true, api.Inode{Ino: 2, Kind: api.Dir, Links: 1, Parent: 1, Entries: []api.Entry{{Name: "f", Ino: 5}}}, api.OK},
		{"q", false, api.Inode{}, api.ErrNone},
		{"g/q", true, api.Inode{}, api.ErrNotDir},
	} {
		if got, e := Stat(f, "/", x.p, x.follow); e != x.e || !reflect.DeepEqual(copiedInode(got), x.want) {
			t.Errorf("Stat of %q, %t: %+v, %d, not %+v, %d", x.p, x.follow, got, e, x.want, x.e)
		}
	}
	want := treeOf(9, line{"/d", api.Dir, 2, ""}, line{"/d/f", api.File, 5, "0123456"}, line{"/g", api.File, 5, "0123456"}, line{"/s", api.Sym, 3, "d"})
	if got, e := Set(f, 5, "0123456"); e != api.OK || !alike(got, want) {
		t.Errorf("Set: %+v, %d, not %+v", got, e, want)
	}
	if got, e := Write(f, "/d", "../s/f", "0123456"); e != api.OK || !alike(got, want) {
		t.Errorf("Write: %+v, %d, not %+v", got, e, want)
	}
}

func TestWhereLinksAreNotMet(t *testing.T) {
	f := tree()
	for p, ino := range map[string]int{
		"/": 1, "//": 1, "a": 9, "a/": 9, "a//": 9, "d": 3, "d/": 3, "d/e": 12, "d/e/": 12, "/d//e": 12,
		".": 1, "./": 1, "..": 1, "../..": 1, "a/.": 9, "a/..": 1, "d/e/.": 12, "d/e/..": 3, "d/e/../": 3,
		"b": 4, "big": 28, "empty": 5, "every": 6, "d/f": 7, "d/g": 7, "d/e/f": 7,
		"./b": 4, "../b": 4, "a/../b": 4, "d/./e/../f": 7, "d/e/../../every": 6, "//d/e//f": 7,
		strings.Repeat("./", 2047) + "b": 4,
	} {
		expectEnds(t, f, "/", p, end{ino, api.OK}, end{ino, api.OK})
		if p[0] != '/' && len(p) < 4000 {
			expectEnds(t, f, "/a", "../"+p, end{ino, api.OK}, end{ino, api.OK})
		}
	}
	for p, e := range map[string]api.Errno{
		"b/": api.ErrNotDir, "big/": api.ErrNotDir, "empty/": api.ErrNotDir, "every//": api.ErrNotDir, "d/f/": api.ErrNotDir, "d/e/f/": api.ErrNotDir,
	} {
		expectErr(t, f, "/", p, e)
	}
}

func TestLinks(t *testing.T) {
	f := tree()
	for p, x := range map[string]struct{ here, there end }{
		// To directories.
		"r": {end{ino: 11}, end{ino: 1}}, "s": {end{ino: 10}, end{ino: 3}}, "t": {end{ino: 10}, end{ino: 3}}, "d/s": {end{ino: 8}, end{ino: 12}}, "d/here": {end{ino: 19}, end{ino: 3}}, "d/e/up": {end{ino: 20}, end{ino: 3}}, "tos": {end{ino: 24}, end{ino: 3}},
		"r/": {end{ino: 1}, end{ino: 1}}, "s/": {end{ino: 3}, end{ino: 3}}, "t//": {end{ino: 3}, end{ino: 3}}, "d/s/": {end{ino: 12}, end{ino: 12}}, "d/here/": {end{ino: 3}, end{ino: 3}}, "tos/": {end{ino: 3}, end{ino: 3}}, "s/.": {end{ino: 3}, end{ino: 3}}, "s/..": {end{ino: 1}, end{ino: 1}},
		// To files.
		"tob": {end{ino: 21}, end{ino: 4}}, "totob": {end{ino: 25}, end{ino: 4}}, "d/tof": {end{ino: 34}, end{ino: 7}}, "d/e/tob": {end{ino: 33}, end{ino: 4}}, "far": {end{ino: 27}, end{ino: 7}}, "toempty": {end{ino: 26}, end{ino: 5}},
		// By way of links.
		"s/f": {end{ino: 7}, end{ino: 7}}, "r/b": {end{ino: 4}, end{ino: 4}}, "tos/e/f": {end{ino: 7}, end{ino: 7}}, "d/s/up/f": {end{ino: 7}, end{ino: 7}}, "s/tof": {end{ino: 34}, end{ino: 7}}, "r/r/totob": {end{ino: 25}, end{ino: 4}}, "s/s": {end{ino: 8}, end{ino: 12}}, "s/e": {end{ino: 12}, end{ino: 12}},
		"d/" + strings.Repeat("here/", 40) + "f": {end{ino: 7}, end{ino: 7}}, "d/" + strings.Repeat("here/", 40) + "tof": {end{ino: 34}, end{e: api.ErrLoop}},
		// To nothing.
		"dead": {end{ino: 13}, end{e: api.ErrNone}}, "deads": {end{ino: 14}, end{e: api.ErrNone}}, "deep": {end{ino: 15}, end{e: api.ErrNone}}, "todead": {end{ino: 22}, end{e: api.ErrNone}},
		// To themselves, and to what may not be.
		"me": {end{ino: 17}, end{e: api.ErrLoop}}, "it": {end{ino: 29}, end{e: api.ErrLoop}}, "me2": {end{ino: 30}, end{e: api.ErrLoop}}, "tome": {end{ino: 23}, end{e: api.ErrLoop}}, "long": {end{ino: 16}, end{e: api.ErrName}}, "slash": {end{ino: 31}, end{e: api.ErrNotDir}}, "through": {end{ino: 32}, end{e: api.ErrNotDir}},
	} {
		expectEnds(t, f, "/", p, x.here, x.there)
		expectEnds(t, f, "/d/e", "../../"+p, x.here, x.there)
		expectEnds(t, f, "/none", "/"+p, x.here, x.there)
	}
	for p, e := range map[string]api.Errno{
		"tob/": api.ErrNotDir, "totob/": api.ErrNotDir, "d/tof/": api.ErrNotDir, "far//": api.ErrNotDir, "toempty/": api.ErrNotDir, "slash/": api.ErrNotDir, "through/": api.ErrNotDir,
		"dead/": api.ErrNone, "deads/": api.ErrNone, "deep/": api.ErrNone, "todead/": api.ErrNone,
		"me/": api.ErrLoop, "it/": api.ErrLoop, "tome/": api.ErrLoop, "long/": api.ErrName,
	} {
		expectErr(t, f, "/", p, e)
	}
}

func TestPathsErrors(t *testing.T) {
	f, n := tree(), strings.Repeat("n", 256)
	for p, want := range map[string]api.Errno{
		"": api.ErrNone,
		n:  api.ErrName, "q/" + n: api.ErrName, "b/" + n: api.ErrName, "d/" + n + "/": api.ErrName,
		strings.Repeat("./", 2047) + "qq": api.ErrName, strings.Repeat("/", 4096): api.ErrName,
		// Nothing, in a directory that is there.
		"q": api.ErrNone, "d/q": api.ErrNone, "/d/e/q": api.ErrNone, "s/q": api.ErrNone, "a/f": api.ErrNone, "q/": api.ErrNone, "q//": api.ErrNone, "a/q/": api.ErrNone, "\x00": api.ErrNone, "d/\x00": api.ErrNone, "d/e/../q": api.ErrNone, strings.Repeat("n", 255): api.ErrNone,
		// Behind a file, and behind what isn't there.
		"b/q": api.ErrNotDir, "d/f/q": api.ErrNotDir, "b/.": api.ErrNotDir, "b/..": api.ErrNotDir, "tob/q": api.ErrNotDir, "b/q/": api.ErrNotDir, "empty/b": api.ErrNotDir,
		"none/q": api.ErrNone, "none/b": api.ErrNone, "none/q/": api.ErrNone, "none/.": api.ErrNone, "none/../b": api.ErrNone, "d/none/q": api.ErrNone, "dead/q": api.ErrNone, "deep/q": api.ErrNone, "\x00/q": api.ErrNone,
		"me/q": api.ErrLoop, "me/none/q": api.ErrLoop, "it/q": api.ErrLoop, "d/" + strings.Repeat("here/", 41) + "f": api.ErrLoop, "long/q": api.ErrName,
	} {
		expectErr(t, f, "/", p, want)
		if p != "" {
			expectErr(t, f, "/a", "../"+p, want)
		}
	}
}

func TestBases(t *testing.T) {
	f := tree()
	for base, want := range map[string]api.Errno{
		"": api.ErrArg, "d": api.ErrArg, ".": api.ErrArg, "/d/": api.ErrArg, "//d": api.ErrArg, "/d/..": api.ErrArg, "/\x00": api.ErrArg, "/" + strings.Repeat("n", 256): api.ErrArg,
		"/none": api.ErrNone, "/d/none": api.ErrNone, "/none/q": api.ErrNone,
		"/b": api.ErrNotDir, "/d/f": api.ErrNotDir, "/b/q": api.ErrNotDir, "/s": api.ErrNotDir, "/s/e": api.ErrNotDir, "/dead": api.ErrNotDir, "/tob": api.ErrNotDir,
	} {
		for _, p := range []string{"b", "q", "d/f", "s", "tob", "a", ".", "..", "q/", "b/q", "\x00", "me"} {
			expectErr(t, f, base, p, want)
		}
		// An absolute path doesn't ask about the base.
		expectEnds(t, f, base, "/b", end{ino: 4}, end{ino: 4})
		expectEnds(t, f, base, "/d", end{ino: 3}, end{ino: 3})
		expectEnds(t, f, base, "/tob", end{ino: 21}, end{ino: 4})
		expectErr(t, f, base, "/q", api.ErrNone)
	}
	for base, ends := range map[string]map[string]int{
		"/":    {".": 1, "..": 1, "d/f": 7, "b": 4, "../b": 4},
		"/a":   {".": 9, "..": 1, "../b": 4, "./../d/g": 7},
		"/d":   {".": 3, "..": 1, "f": 7, "g": 7, "e/f": 7, "../b": 4, "e": 12, "e/../f": 7, "here/f": 7},
		"/d/e": {".": 12, "..": 3, "f": 7, "../g": 7, "up/f": 7, "up/../b": 4, "../../../../b": 4},
	} {
		for p, ino := range ends {
			expectEnds(t, f, base, p, end{ino: ino}, end{ino: ino})
		}
	}
}

func TestErrorsInTheirOrder(t *testing.T) {
	f := tree()
	f.MaxBytes = used(f)
	much := strings.Repeat("x", 1<<16)
	// What the path is told ahead of what it leads to, and both ahead of the room.
	for p, want := range map[string]end{
		"": {e: api.ErrNone}, strings.Repeat("n", 256): {e: api.ErrName}, "b/q": {e: api.ErrNotDir}, "b/": {e: api.ErrNotDir}, "none/q": {e: api.ErrNone}, "me": {e: api.ErrLoop}, "long": {e: api.ErrName},
		"q": {e: api.ErrNone}, "q/": {e: api.ErrNone}, "dead": {e: api.ErrNone},
		"/": {ino: 1}, "a": {ino: 9}, "d/": {ino: 3}, "s": {ino: 3}, ".": {ino: 1},
		"b": {ino: 4}, "tob": {ino: 4}, "empty": {ino: 5}, "d/f": {ino: 7},
	} {
		expectWrite(t, f, "/", p, much, want)
	}
	for _, base := range []string{"d", "/none", "/b"} {
		expectErr(t, f, base, "", api.ErrNone)
		expectErr(t, f, base, strings.Repeat("n", 256), api.ErrName)
	}
	if _, e := Write(f, "/", "b", much); e != api.ErrSpace {
		t.Errorf("Write of too much: %d", e)
	}
	if _, e := Write(f, "/", "a", much); e != api.ErrIsDir {
		t.Errorf("Write of too much to a directory: %d", e)
	}
	if _, e := Write(f, "/", "q", much); e != api.ErrNone {
		t.Errorf("Write of too much to nothing: %d", e)
	}
}

// P13.2

// files answers the numbers of the tree's files.
func files() []int { return []int{4, 5, 6, 7, 28} }

func TestSet(t *testing.T) {
	f := tree()
	expectSound(t, f)
	for _, ino := range files() {
		was := inode(f, ino).Data
		for _, data := range []string{"", "x", "\x00", "abc", "xyz", was, was + "x", "x" + was, was + was, strings.Repeat("y", len(was)), was[:len(was)/2], everyByte(), longText(), "\xff\xfe/../", "é\n"} {
			expectSet(t, f, ino, data)
			if got, _ := Set(f, ino, data); inode(got, ino).Data != data {
				t.Errorf("Set of %d to %.60q: %.60q", ino, data, inode(got, ino).Data)
			}
		}
	}
}

// roomFor tells whether Set, and Write by the path, find room for so many bytes in the file in place of its own.
func roomFor(t *testing.T, f api.Fs, ino int, p string, bytes int) bool {
	t.Helper()
	data := strings.Repeat("x", bytes)
	expectSet(t, f, ino, data)
	expectWrite(t, f, "/", p, data, end{ino: ino})
	_, e := Set(f, ino, data)
	_, e2 := Write(f, "/", p, data)
	if e != e2 || e != api.OK && e != api.ErrSpace {
		t.Fatalf("Set answers %d, Write %d", e, e2)
	}
	return e == api.OK
}

func TestAtTheRoomsEdge(t *testing.T) {
	// Links' and directories' bytes use no room; other files' do, also where these have two entries.
	others := []line{{"/d", api.Dir, 4, ""}, {"/d/s", api.Sym, 5, "../k"}, {"/d/x", api.File, 6, ""}, {"/m", api.File, 7, "01234"}, {"/n", api.File, 7, "01234"}}
	for _, beside := range []struct {
		lines []line
		bytes int
	}{{nil, 0}, {others[:2], 0}, {others[:3], 0}, {others, 5}} {
		for had := range 4 {
			lines := append([]line{{"/k", api.File, 3, "abc"[:had]}}, beside.lines...)
			for free := range 5 {
				f := treeOf(beside.bytes+had+free, lines...)
				expectSound(t, f)
				for bytes := range 12 {
					if got := roomFor(t, f, 3, "k", bytes); got != (bytes <= had+free) {
						t.Errorf("room for %d bytes in place of %d, with %d free beside %d: %t", bytes, had, free, beside.bytes, got)
					}
				}
			}
		}
	}
}

func TestGreatestRoom(t *testing.T) {
	f := treeOf(api.MaxCount, line{"/k", api.File, 3, "abc"})
	expectSet(t, f, 3, longText())
	f.MaxBytes = len(longText())
	expectSet(t, f, 3, longText())
	f.MaxBytes--
	if got, e := Set(f, 3, longText()); e != api.ErrSpace || !alike(got, f) {
		t.Errorf("a byte too few: %d", e)
	}
	f.MaxBytes = 3
	expectSet(t, f, 3, "")
	none := treeOf(0, line{"/k", api.File, 3, ""})
	expectSet(t, none, 3, "")
	expectSet(t, none, 3, "x")
}

func TestNoInodeIsAskedFor(t *testing.T) {
	// Where no inode more fits, Data may be written; the next inode's number stays.
	f := tree()
	if f.MaxInodes != len(f.Inodes) {
		t.Fatalf("there is room for %d inodes", f.MaxInodes)
	}
	got, e := Write(f, "/", "empty", "abc")
	if e != api.OK || got.Next != 40 || got.MaxInodes != f.MaxInodes || len(got.Inodes) != len(f.Inodes) {
		t.Errorf("Write: %d inodes, the next one %d, %d", len(got.Inodes), got.Next, e)
	}
}

func TestNoOtherInodeIsChanged(t *testing.T) {
	f := tree()
	got, _ := Set(f, 7, "x")
	for _, x := range f.Inodes {
		y := inode(got, x.Ino)
		if x.Ino == 7 {
			x.Data = "x"
		}
		if !reflect.DeepEqual(copiedInode(x), copiedInode(y)) {
			t.Errorf("%+v, not %+v", y, x)
		}
	}
}

// P13.3

func TestReadByEachPath(t *testing.T) {
	f := tree()
	for _, ino := range files() {
		for _, by := range walk.Paths(f, ino) {
			got, e := Write(f, "/", by, "written\x00")
			if e != api.OK {
				t.Fatalf("Write of %q: %d", by, e)
			}
			for p, x := range walk.All(f) {
				if x.Kind != api.File {
					continue
				}
				want := x.Data
				if x.Ino == ino {
					want = "written\x00"
				}
				if data, e := Read(got, "/", p); data != want || e != api.OK {
					t.Errorf("behind Write of %q, %q is read as %.60q, %d, not %.60q", by, p, data, e, want)
				}
			}
		}
	}
	if n := len(walk.Paths(f, 7)); n != 3 {
		t.Errorf("the file has %d paths", n)
	}
}

func TestReadByLinks(t *testing.T) {
	ways := [][2]string{{"/", "d/f"}, {"/", "d/g"}, {"/", "d/e/f"}, {"/d", "f"}, {"/d", "e/f"}, {"/d/e", "f"}, {"/d/e", "../g"}, {"/a", "../far"}, {"/", "s/tof"}, {"/", "d/s/f"}, {"/none", "/r/tos/here/g"}, {"", "//d/./e/../f"}}
	for _, by := range ways {
		got, e := Write(tree(), by[0], by[1], "new")
		if e != api.OK {
			t.Fatalf("Write of %q: %d", by, e)
		}
		for _, way := range ways {
			if data, e := Read(got, way[0], way[1]); data != "new" || e != api.OK {
				t.Errorf("behind Write of %q, %q is read as %.60q, %d", by, way, data, e)
			}
			if x, e := Stat(got, way[0], way[1], true); x.Data != "new" || x.Links != 3 || x.Ino != 7 || e != api.OK {
				t.Errorf("behind Write of %q, %q is %+v, %d", by, way, x, e)
			}
		}
	}
}

func TestOneWriteBehindTheOther(t *testing.T) {
	// What was written last is read; a room that is all used comes free again, byte by byte.
	f := treeOf(6, line{"/k", api.File, 2, "abc"}, line{"/m", api.File, 3, "def"}, line{"/n", api.File, 3, "def"}, line{"/s", api.Sym, 4, "n"})
	for i, x := range []struct {
		p, data string
		e       api.Errno
		k, m    string
	}{
		{"k", "abcd", api.ErrSpace, "abc", "def"}, {"m", "xyz", api.OK, "abc", "xyz"}, {"k", "", api.OK, "", "xyz"}, {"s", "012345", api.OK, "", "012345"},
		{"k", "a", api.ErrSpace, "", "012345"}, {"n", "0123456", api.ErrSpace, "", "012345"}, {"n", "01234", api.OK, "", "01234"}, {"k", "ab", api.ErrSpace, "", "01234"},
		{"k", "a", api.OK, "a", "01234"}, {"k", "b", api.OK, "b", "01234"}, {"m", "", api.OK, "b", ""}, {"k", "abcdef", api.OK, "abcdef", ""}, {"s", "x", api.ErrSpace, "abcdef", ""},
	} {
		got, e := Write(f, "/", x.p, x.data)
		if e != x.e || e != api.OK && !alike(got, f) {
			t.Fatalf("%d: %+v, %d, not %d", i, got, e, x.e)
		}
		f = got
		expectSound(t, f)
		for p, want := range map[string]string{"k": x.k, "m": x.m, "n": x.m, "s": x.m} {
			if data, e := Read(f, "/", p); data != want || e != api.OK {
				t.Errorf("%d: %q is read as %q, %d, not %q", i, p, data, e, want)
			}
		}
		if room.Bytes(f) != len(x.k)+len(x.m) {
			t.Errorf("%d: %d bytes are used", i, room.Bytes(f))
		}
	}
}

// P13.1 to P13.3 in each small tree

// grow hands each tree of the lines, and of more of them, so many in all, to do.
func grow(lines []line, most int, do func(api.Fs)) {
	do(treeOf(5, lines...))
	if len(lines) == most {
		return
	}
	dirs, more := []string{""}, []line(nil)
	name, ino := []string{"a", "b", "c"}[len(lines)], 9-len(lines)
	for _, l := range lines {
		if l.kind == api.Dir {
			dirs = append(dirs, l.path)
		} else {
			more = append(more, l)
		}
	}
	more = append(more, line{"", api.Dir, ino, ""}, line{"", api.File, ino, "x"})
	for _, target := range []string{"a", "b/", "/", "../b/.", "/a/c", "."} {
		more = append(more, line{"", api.Sym, ino, target})
	}
	for _, dir := range dirs {
		for _, l := range more {
			l.path = dir + "/" + name
			grow(append(slices.Clone(lines), l), most, do)
		}
	}
}

// paths answers all texts of at most so many of the parts, with a slash between two.
func paths(most int, parts ...string) []string {
	all, last := []string(nil), []string(nil)
	for i := range most {
		longer := slices.Clone(parts)
		if i > 0 {
			longer = nil
			for _, p := range last {
				for _, part := range parts {
					longer = append(longer, p+"/"+part)
				}
			}
		}
		all, last = append(all, longer...), longer
	}
	return all
}

func TestEachSmallTree(t *testing.T) {
	trees, wrote := 0, 0
	for _, most := range []struct{ lines, parts int }{{2, 3}, {3, 2}} {
		// An empty part makes a slash at the beginning or the end, or two of them.
		all := paths(most.parts, "a", "b", "c", ".", "..", "")
		grow(nil, most.lines, func(f api.Fs) {
			trees++
			expectSound(t, f)
			for _, p := range all {
				here, there := ended(f, "/", p, false), ended(f, "/", p, true)
				expectStat(t, f, "/", p, false, here)
				expectStat(t, f, "/", p, true, there)
				expectRead(t, f, "/", p, there)
				expectReadlink(t, f, "/", p, here)
				// There is room for 5 bytes; each other file holds one.
				for _, data := range []string{"0123", "01234", "012345"} {
					expectWrite(t, f, "/", p, data, there)
				}
				if inode(f, there.ino).Kind == api.File {
					wrote++
				}
			}
		})
	}
	if trees < 1000 || wrote < 1000 {
		t.Errorf("%d wrote in %d trees", wrote, trees)
	}
}

// P13.4

// roomy answers the file system in lists of its own, each with room behind it that isn't empty.
func roomy(f api.Fs) api.Fs {
	behind := api.Entry{Name: "zzz", Ino: 77}
	f = copied(f)
	for i, x := range f.Inodes {
		f.Inodes[i].Entries = append(x.Entries, behind, behind, behind)[:len(x.Entries)]
	}
	last := api.Inode{Ino: 77, Kind: api.File, Links: 8, Data: "behind"}
	f.Inodes = append(f.Inodes, last, last, last)[:len(f.Inodes)]
	return f
}

// wholly answers the file system with the room behind its lists laid open.
func wholly(f api.Fs) api.Fs {
	f.Inodes = slices.Clone(f.Inodes[:cap(f.Inodes)])
	for i, x := range f.Inodes {
		f.Inodes[i].Entries = x.Entries[:cap(x.Entries)]
	}
	return copied(f)
}

func TestHandedInStays(t *testing.T) {
	f := roomy(tree())
	before := wholly(f)
	all := paths(2, "d", "e", "f", "s", "r", "q", "zzz", "b", "tob", "empty", "dead", "me", ".", "..", "", "\x00")
	for _, base := range []string{"/", "/d", "/d/e", "/b", "/none", "d"} {
		for _, p := range all {
			Stat(f, base, p, false)
			Stat(f, base, p, true)
			Read(f, base, p)
			Readlink(f, base, p)
			got, e := Write(f, base, p, "new")
			if e == api.OK {
				// What is made of the new one may not show in the old one either.
				Write(got, base, p, "newer")
			}
			Write(f, base, p, strings.Repeat("x", 1<<16+1))
		}
	}
	for _, ino := range files() {
		for _, data := range []string{"", "x", longText(), strings.Repeat("x", 1<<16+1)} {
			Set(f, ino, data)
		}
	}
	if after := wholly(f); !reflect.DeepEqual(after, before) {
		t.Fatalf("handed in: %.300s, not %.300s", fmt.Sprint(after), fmt.Sprint(before))
	}
}

func TestWhatWasAnsweredStays(t *testing.T) {
	// Two that are made of one may not write into each other, nor into what they are made of.
	f, _ := Write(tree(), "/", "b", "first")
	before := copied(f)
	second, _ := Write(f, "/", "tob", "second")
	third, _ := Set(f, 4, "")
	fourth, _ := Write(second, "/", "b", "fourth")
	if !alike(f, before) {
		t.Errorf("what they are made of isn't as it was")
	}
	for want, f := range map[string]api.Fs{"first": f, "second": second, "": third, "fourth": fourth} {
		if data, e := Read(f, "/", "b"); data != want || e != api.OK {
			t.Errorf("%q, %d, not %q", data, e, want)
		}
	}
}

func TestRoomIsNotGoneThrough(t *testing.T) {
	f := roomy(tree())
	f.MaxBytes = used(f) + 1
	for _, p := range []string{"zzz", "a/zzz", "d/zzz"} {
		expectErr(t, f, "/", p, api.ErrNone)
	}
	// The file behind the list uses no bytes.
	expectWrite(t, f, "/", "b", "abcd", end{ino: 4})
	if _, e := Write(f, "/", "b", "abcd"); e != api.OK {
		t.Errorf("Write where a byte is free: %d", e)
	}
}

// shares tells whether two texts have memory in common.
func shares(a, b string) bool {
	if a == "" || b == "" {
		return false
	}
	x, y := uintptr(unsafe.Pointer(unsafe.StringData(a))), uintptr(unsafe.Pointer(unsafe.StringData(b)))
	return x < y+uintptr(len(b)) && y < x+uintptr(len(a))
}

func TestTextsAreNotKept(t *testing.T) {
	f, data := tree(), strings.Repeat("q", 9)
	set, _ := Set(f, 4, data)
	wrote, _ := Write(f, "/", "b", data)
	for _, got := range []api.Fs{set, wrote} {
		for _, x := range got.Inodes {
			if shares(x.Data, data) || shares(x.Data, inode(f, x.Ino).Data) {
				t.Errorf("the data's memory is kept in %.300s", fmt.Sprint(x))
			}
		}
	}
	x, _ := Stat(f, "/", "b", true)
	read, _ := Read(f, "/", "b")
	target, _ := Readlink(f, "/", "tob")
	if shares(x.Data, inode(f, 4).Data) || shares(read, inode(f, 4).Data) || shares(target, inode(f, 21).Data) {
		t.Errorf("what is answered has its memory in common with what was handed in")
	}
}

// The rules that hold everywhere

func TestWhateverIsHandedInIsAnswered(t *testing.T) {
	// Of such numbers and file systems nothing is promised but that the calls end, and leave what is handed in.
	broken := []api.Fs{{}, tree()}
	for _, change := range []func(f *api.Fs){
		func(f *api.Fs) { f.Inodes = f.Inodes[1:] },
		func(f *api.Fs) { slices.Reverse(f.Inodes) },
		func(f *api.Fs) { slices.Reverse(f.Inodes[0].Entries) },
		func(f *api.Fs) { f.Inodes[0].Kind = api.File },
		func(f *api.Fs) { f.Inodes[0].Kind = 4 },
		func(f *api.Fs) { f.Inodes[0].Entries[1].Ino = 99 },
		func(f *api.Fs) { f.Inodes[0].Entries[1].Ino = -1 },
		func(f *api.Fs) { f.Inodes[2].Kind = 0 },
		func(f *api.Fs) { f.MaxInodes, f.MaxBytes, f.Next = math.MinInt, math.MinInt, math.MinInt },
	} {
		f := copied(tree())
		change(&f)
		broken = append(broken, f)
	}
	for _, f := range broken {
		before := copied(f)
		for _, ino := range []int{math.MinInt, -1, 0, 1, 3, 4, 10, 99, math.MaxInt} {
			Set(f, ino, "")
			Set(f, ino, "new")
		}
		for _, base := range []string{"", "/", "/d", "/s", "\xff"} {
			for _, p := range append(paths(2, "a", "b", "d", "q", "s", "me", ".", "..", "", "\x00", "\xff"), strings.Repeat("/", 5000)) {
				Stat(f, base, p, false)
				Stat(f, base, p, true)
				Read(f, base, p)
				Readlink(f, base, p)
				Write(f, base, p, "new")
			}
		}
		if !alike(f, before) {
			t.Errorf("handed in: %.300s, not %.300s", fmt.Sprint(f), fmt.Sprint(before))
		}
	}
}

func TestOfANewTable(t *testing.T) {
	f, _ := table.New(1, 0)
	for _, p := range []string{"/", ".", "..", "//", "/."} {
		expectEnds(t, f, "/", p, end{ino: 1}, end{ino: 1})
	}
	expectErr(t, f, "/", "b", api.ErrNone)
}
