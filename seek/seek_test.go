package seek

import (
	"cmp"
	"fmt"
	"reflect"
	"slices"
	"strings"
	"testing"
	"unsafe"

	"drayman/api"
	"drayman/place"
	"drayman/sound"
)

// line is an entry of a tree: where it stands, and the inode that it names, whose Data are of a file or a link alone.
type line struct {
	path string
	kind int
	ino  int
	data string
}

// treeOf answers the file system of these entries, a directory's own ahead of those in it.
func treeOf(lines ...line) api.Fs {
	inodes := map[int]*api.Inode{1: {Ino: 1, Kind: api.Dir, Parent: 1}}
	dirs := map[string]*api.Inode{"": inodes[1]}
	next := 2
	for _, l := range lines {
		cut := strings.LastIndexByte(l.path, '/')
		dir := dirs[l.path[:cut]]
		dir.Entries = append(dir.Entries, api.Entry{Name: l.path[cut+1:], Ino: l.ino})
		if inodes[l.ino] == nil {
			inodes[l.ino] = &api.Inode{Ino: l.ino, Kind: l.kind, Data: l.data}
		}
		inodes[l.ino].Links++
		if l.kind == api.Dir {
			inodes[l.ino].Parent = dir.Ino
			dirs[l.path] = inodes[l.ino]
		}
		next = max(next, l.ino+1)
	}
	f := api.Fs{MaxInodes: api.MaxCount, MaxBytes: api.MaxCount, Next: next}
	for _, x := range inodes {
		slices.SortFunc(x.Entries, func(a, b api.Entry) int { return cmp.Compare(a.Name, b.Name) })
		f.Inodes = append(f.Inodes, *x)
	}
	slices.SortFunc(f.Inodes, func(x, y api.Inode) int { return cmp.Compare(x.Ino, y.Ino) })
	return f
}

// tree answers a file system of directories in one another, files of several names, and links to each, from several directories.
func tree() api.Fs {
	return treeOf(
		line{"/a", api.Dir, 9, ""},
		line{"/b", api.File, 4, "abc"},
		line{"/d", api.Dir, 3, ""},
		line{"/d/back", api.Sym, 21, "../s/e"},
		line{"/d/e", api.Dir, 12, ""},
		line{"/d/e/f", api.File, 7, "\x00\xff"},
		line{"/d/e/up", api.Sym, 20, ".."},
		line{"/d/e/x", api.Dir, 2, ""},
		line{"/d/f", api.File, 7, "\x00\xff"},
		line{"/d/here", api.Sym, 19, "."},
		line{"/d/s", api.Sym, 8, "e"},
		line{"/d/t", api.Sym, 18, "/b"},
		line{"/fs", api.Sym, 15, "b/"},
		line{"/ft", api.Sym, 14, "b"},
		line{"/m", api.Sym, 16, "d/e/x"},
		line{"/ns", api.Sym, 17, "none/"},
		line{"/nt", api.Sym, 13, "none"},
		line{"/r", api.Sym, 11, "/"},
		line{"/s", api.Sym, 10, "d/"},
		line{"/z", api.Sym, 22, "/d//e/"},
	)
}

// inodeOf answers the number's inode, or one that is nothing.
func inodeOf(f api.Fs, ino int) api.Inode {
	for _, x := range f.Inodes {
		if x.Ino == ino {
			return x
		}
	}
	return api.Inode{}
}

// cut answers a path's names, and whether it ends in a slash, of the document's words alone.
func cut(p string) ([]string, bool) {
	names := strings.FieldsFunc(p, func(r rune) bool { return r == '/' })
	return names, p[len(p)-1] == '/'
}

// long tells whether the path, or one of its names, is too long, of the document's words alone.
func long(p string) bool {
	names, _ := cut(p)
	return len(p) > 4095 || slices.ContainsFunc(names, func(name string) bool { return len(name) > 255 })
}

// way is how far one came: what one stands at, by which entry, what is still to go, and what was asked for.
type way struct {
	f        api.Fs
	ino      int
	by       api.Spotted
	names    []string
	mustDir  bool
	follow   bool
	followed int
}

// sought answers, of the chapter's words alone, where the path leads; home is the base's number, and homeErr its error.
func sought(f api.Fs, home int, homeErr api.Errno, p string, follow bool) (api.Spotted, api.Errno) {
	switch {
	case p == "":
		return api.Spotted{}, api.ErrNone
	case long(p):
		return api.Spotted{}, api.ErrName
	case p[0] == '/':
		home = 1
	case homeErr != api.OK:
		return api.Spotted{}, homeErr
	}
	names, slash := cut(p)
	w := way{f: f, ino: home, by: api.Spotted{Ino: home}, names: names, mustDir: slash, follow: follow}
	return w.gone()
}

// gone answers where one comes to who goes on.
func (w way) gone() (api.Spotted, api.Errno) {
	x := inodeOf(w.f, w.ino)
	if len(w.names) == 0 {
		if w.mustDir && w.ino != 0 && x.Kind != api.Dir {
			return api.Spotted{}, api.ErrNotDir
		}
		return w.by, api.OK
	}
	if x.Kind != api.Dir {
		return api.Spotted{}, api.ErrNotDir
	}
	name := w.names[0]
	w.names = w.names[1:]
	if name == "." || name == ".." {
		if name == ".." {
			w.ino = x.Parent
		}
		w.by = api.Spotted{Ino: w.ino}
		return w.gone()
	}
	w.ino = 0
	for _, e := range x.Entries {
		if e.Name == name {
			w.ino = e.Ino
		}
	}
	w.by = api.Spotted{Dir: x.Ino, Name: name, Ino: w.ino}
	if w.ino == 0 && len(w.names) > 0 {
		return api.Spotted{}, api.ErrNone
	}
	if inodeOf(w.f, w.ino).Kind == api.Sym && (len(w.names) > 0 || w.follow || w.mustDir) {
		return w.linked()
	}
	return w.gone()
}

// linked answers where one comes to who follows the link to which one came.
func (w way) linked() (api.Spotted, api.Errno) {
	target := inodeOf(w.f, w.ino).Data
	switch {
	case w.followed == 40:
		return api.Spotted{}, api.ErrLoop
	case long(target):
		return api.Spotted{}, api.ErrName
	}
	w.followed++
	w.ino = w.by.Dir
	if target[0] == '/' {
		w.ino = 1
	}
	w.by = api.Spotted{Ino: w.ino}
	names, slash := cut(target)
	if len(w.names) == 0 && slash {
		w.mustDir = true
	}
	w.names = append(slices.Clone(names), w.names...)
	return w.gone()
}

// homeOf answers, of the chapter's words alone, where a base leads that is plain.
func homeOf(f api.Fs, base string) (int, api.Errno) {
	names, _ := cut(base)
	w := way{f: f, ino: 1, by: api.Spotted{Ino: 1}, names: names}
	for _, name := range names {
		x := inodeOf(f, w.ino)
		at := slices.IndexFunc(x.Entries, func(e api.Entry) bool { return e.Name == name })
		switch {
		case x.Kind != api.Dir:
			return 0, api.ErrNotDir
		case at < 0:
			return 0, api.ErrNone
		}
		w.ino = x.Entries[at].Ino
	}
	if inodeOf(f, w.ino).Kind != api.Dir {
		return 0, api.ErrNotDir
	}
	return w.ino, api.OK
}

// copied answers the file system in lists of its own, those that are empty as nil.
func copied(f api.Fs) api.Fs {
	var inodes []api.Inode
	for _, x := range f.Inodes {
		x.Entries = append([]api.Entry(nil), x.Entries...)
		inodes = append(inodes, x)
	}
	f.Inodes = inodes
	return f
}

// expectSound asks whether the file system is sound.
func expectSound(t *testing.T, f api.Fs) {
	t.Helper()
	if n := sound.Check(f); n != 0 {
		t.Fatalf("%+v isn't sound: rule %d", f, n)
	}
}

// expect asks Seek for where the path leads, or for the error and for nothing beside it, and Dir for what Seek, following, says of it.
func expect(t *testing.T, f api.Fs, base, p string, follow bool, want api.Spotted, wantErr api.Errno) {
	t.Helper()
	if got, e := Seek(f, base, p, follow); got != want || e != wantErr {
		t.Errorf("Seek of %.60q from %.60q, following %t: %+v, %d, not %+v, %d", p, base, follow, got, e, want, wantErr)
	}
	if !follow {
		return
	}
	if got, want := Dir(f, base, p), wantErr == api.OK && inodeOf(f, want.Ino).Kind == api.Dir; got != want {
		t.Errorf("Dir of %.60q from %.60q: %t", p, base, got)
	}
}

// expectBoth asks Seek, following and not following, for where the path leads.
func expectBoth(t *testing.T, f api.Fs, base, p string, want api.Spotted) {
	t.Helper()
	expect(t, f, base, p, true, want, api.OK)
	expect(t, f, base, p, false, want, api.OK)
}

// expectErr asks Seek, following and not following, for the error.
func expectErr(t *testing.T, f api.Fs, base, p string, want api.Errno) {
	t.Helper()
	expect(t, f, base, p, true, api.Spotted{}, want)
	expect(t, f, base, p, false, api.Spotted{}, want)
}

// expectSought asks Seek and Dir for what the chapter's words say of the path, from a base that is plain.
func expectSought(t *testing.T, f api.Fs, base, p string) {
	t.Helper()
	home, homeErr := homeOf(f, base)
	for _, follow := range []bool{false, true} {
		want, e := sought(f, home, homeErr, p, follow)
		expect(t, f, base, p, follow, want, e)
	}
}

// expectHome asks Home for the number of the base's directory, or for the error, and Seek of . and of a name likewise.
func expectHome(t *testing.T, f api.Fs, base string, want int, wantErr api.Errno) {
	t.Helper()
	if got, e := Home(f, base); got != want || e != wantErr {
		t.Errorf("Home of %.60q: %d, %d, not %d, %d", base, got, e, want, wantErr)
	}
	if wantErr != api.OK {
		expectErr(t, f, base, ".", wantErr)
		expectErr(t, f, base, "q/q", wantErr)
		return
	}
	expectBoth(t, f, base, ".", api.Spotted{Ino: want})
	expectBoth(t, f, base, "q", api.Spotted{Dir: want, Name: "q"})
}

// P10.1

func TestHome(t *testing.T) {
	expectSound(t, tree())
	for base, want := range map[string]int{"/": 1, "/a": 9, "/d": 3, "/d/e": 12, "/d/e/x": 2} {
		expectHome(t, tree(), base, want, api.OK)
	}
	alone := treeOf()
	expectHome(t, alone, "/", 1, api.OK)
	expectHome(t, alone, "/a", 0, api.ErrNone)
}

func TestHomeIsNoDirectory(t *testing.T) {
	for _, base := range []string{"/b", "/d/f", "/d/e/f", "/s", "/r", "/z", "/d/s", "/d/here", "/d/e/up", "/ft", "/fs", "/nt", "/ns", "/d/t"} {
		expectHome(t, tree(), base, 0, api.ErrNotDir)
	}
}

func TestHomeIsNotLedTo(t *testing.T) {
	for base, want := range map[string]api.Errno{
		"/none": api.ErrNone, "/none/x": api.ErrNone, "/d/none": api.ErrNone, "/a/b": api.ErrNone, "/d/e/x/y": api.ErrNone, "/none/b/x": api.ErrNone,
		"/b/x": api.ErrNotDir, "/b/x/y": api.ErrNotDir, "/d/f/x": api.ErrNotDir, "/s/e": api.ErrNotDir, "/r/d": api.ErrNotDir, "/nt/x": api.ErrNotDir, "/d/here/e": api.ErrNotDir,
	} {
		expectHome(t, tree(), base, 0, want)
	}
}

func TestHomeIsNotPlain(t *testing.T) {
	for _, base := range notPlain() {
		expectHome(t, tree(), base, 0, api.ErrArg)
	}
}

// notPlain answers bases that aren't plain, in parts of which there is, and isn't, something in the tree.
func notPlain() []string {
	n := strings.Repeat("n", 256)
	return []string{
		"", "d", "d/e", ".", "..", "./d", "//", "//d", "/d/", "/d//e", "/d/e/", "/.", "/..", "/./d", "/d/.", "/d/..", "/d/../d",
		"/b/", "/b/.", "/s/", "/s/.", "/none/", "/none/..", "/\x00", "/d\x00", "/d/\x00", "/" + n, "/d/" + n, "/none/" + n, "/b/" + n,
	}
}

func TestBaseIsNotAskedOfAbsolutePaths(t *testing.T) {
	bases := append(notPlain(), "/", "/d", "/d/e", "/none", "/none/x", "/b", "/b/x", "/s", "/s/e", "/nt")
	for _, base := range bases {
		expectBoth(t, tree(), base, "/", api.Spotted{Ino: 1})
		expectBoth(t, tree(), base, "/d/e/f", api.Spotted{Dir: 12, Name: "f", Ino: 7})
		expectBoth(t, tree(), base, "/q", api.Spotted{Dir: 1, Name: "q"})
		expectBoth(t, tree(), base, "/..", api.Spotted{Ino: 1})
		expectErr(t, tree(), base, "/none/x", api.ErrNone)
		expectErr(t, tree(), base, "/b/x", api.ErrNotDir)
	}
}

func TestPathIsAskedAheadOfTheBase(t *testing.T) {
	n := strings.Repeat("n", 256)
	for _, base := range append(notPlain(), "/", "/d", "/none", "/b", "/s", "/b/x") {
		expectErr(t, tree(), base, "", api.ErrNone)
		expectErr(t, tree(), base, n, api.ErrName)
		expectErr(t, tree(), base, strings.Repeat("./", 2048), api.ErrName)
	}
}

// P10.2

func TestChaptersExamples(t *testing.T) {
	f := treeOf(line{"/d", api.Dir, 7, ""}, line{"/d/f", api.File, 3, "abc"}, line{"/s", api.Sym, 5, "d/"})
	expectSound(t, f)
	d := api.Spotted{Dir: 1, Name: "d", Ino: 7}
	expectBoth(t, f, "/", "s/f", api.Spotted{Dir: 7, Name: "f", Ino: 3})
	expect(t, f, "/", "s", false, api.Spotted{Dir: 1, Name: "s", Ino: 5}, api.OK)
	expectBoth(t, f, "/", "s/", d)
	expect(t, f, "/", "s", true, d, api.OK)
}

func TestNamesAlone(t *testing.T) {
	for p, want := range map[string]api.Spotted{
		"a":     {Dir: 1, Name: "a", Ino: 9},
		"b":     {Dir: 1, Name: "b", Ino: 4},
		"d":     {Dir: 1, Name: "d", Ino: 3},
		"d/e":   {Dir: 3, Name: "e", Ino: 12},
		"d/f":   {Dir: 3, Name: "f", Ino: 7},
		"d/e/f": {Dir: 12, Name: "f", Ino: 7},
		"d/e/x": {Dir: 12, Name: "x", Ino: 2},
		"q":     {Dir: 1, Name: "q"},
		"...":   {Dir: 1, Name: "..."},
		"\x00":  {Dir: 1, Name: "\x00"},
		"d/d":   {Dir: 3, Name: "d"},
		"d/e/q": {Dir: 12, Name: "q"},
		"a/..a": {Dir: 9, Name: "..a"},
	} {
		expectBoth(t, tree(), "/", p, want)
		expectBoth(t, tree(), "/none", "/"+p, want)
		if rest, inD := strings.CutPrefix(p, "d/"); inD {
			expectBoth(t, tree(), "/d", rest, want)
		}
	}
}

func TestBehindWhatIsNoDirectory(t *testing.T) {
	for p, want := range map[string]api.Errno{
		"none/x": api.ErrNone, "none/x/y": api.ErrNone, "d/none/f": api.ErrNone, "a/b/x": api.ErrNone, "none/b/x": api.ErrNone,
		"b/x": api.ErrNotDir, "b/x/y": api.ErrNotDir, "d/f/x": api.ErrNotDir, "d/e/f/none/x": api.ErrNotDir,
		"ft/x": api.ErrNotDir, "fs/x": api.ErrNotDir, "d/t/x": api.ErrNotDir, "ft/x/y": api.ErrNotDir,
		"nt/x": api.ErrNone, "ns/x": api.ErrNone, "nt/x/y": api.ErrNone,
	} {
		expectErr(t, tree(), "/", p, want)
		expectErr(t, tree(), "", "/"+p, want)
	}
	expectErr(t, tree(), "/d", "f/x", api.ErrNotDir)
	expectErr(t, tree(), "/d", "b/x", api.ErrNone)
}

func TestDots(t *testing.T) {
	for p, want := range map[string]api.Spotted{
		".":               {Ino: 12},
		"..":              {Ino: 3},
		"../..":           {Ino: 1},
		"../../..":        {Ino: 1},
		"../../../../d":   {Dir: 1, Name: "d", Ino: 3},
		"./.":             {Ino: 12},
		"./..":            {Ino: 3},
		"../.":            {Ino: 3},
		"./f":             {Dir: 12, Name: "f", Ino: 7},
		"../f":            {Dir: 3, Name: "f", Ino: 7},
		"../q":            {Dir: 3, Name: "q"},
		"../../b":         {Dir: 1, Name: "b", Ino: 4},
		"x/.":             {Ino: 2},
		"x/..":            {Ino: 12},
		"x/../..":         {Ino: 3},
		"x/./../f":        {Dir: 12, Name: "f", Ino: 7},
		"x/../x/../x/./q": {Dir: 2, Name: "q"},
		"../e":            {Dir: 3, Name: "e", Ino: 12},
		"../e/.":          {Ino: 12},
		"/.":              {Ino: 1},
		"/..":             {Ino: 1},
		"/../..":          {Ino: 1},
		"/../d/..":        {Ino: 1},
		"/./d/../a":       {Dir: 1, Name: "a", Ino: 9},
		"...":             {Dir: 12, Name: "..."},
		"x/...":           {Dir: 2, Name: "..."},
	} {
		expectBoth(t, tree(), "/d/e", p, want)
	}
	for p, want := range map[string]api.Errno{
		"f/.": api.ErrNotDir, "f/..": api.ErrNotDir, "f/../f": api.ErrNotDir, "f/./": api.ErrNotDir, "/b/.": api.ErrNotDir, "/ft/..": api.ErrNotDir,
		"q/.": api.ErrNone, "q/..": api.ErrNone, "q/../f": api.ErrNone, "q/./": api.ErrNone, "/nt/.": api.ErrNone, "/ns/..": api.ErrNone,
	} {
		expectErr(t, tree(), "/d/e", p, want)
	}
}

func TestSlashes(t *testing.T) {
	for p, want := range map[string]api.Spotted{
		"/": {Ino: 1}, "//": {Ino: 1}, "////": {Ino: 1},
		"d/": {Dir: 1, Name: "d", Ino: 3}, "d//": {Dir: 1, Name: "d", Ino: 3}, "///d//": {Dir: 1, Name: "d", Ino: 3},
		"d//e///f": {Dir: 12, Name: "f", Ino: 7}, "//d/e/x//": {Dir: 12, Name: "x", Ino: 2},
		"./": {Ino: 1}, "d/.//": {Ino: 3}, "d/../": {Ino: 1}, "d//..//e": {Dir: 1, Name: "e"},
		// A directory may still be made where there is no inode.
		"q/": {Dir: 1, Name: "q"}, "q//": {Dir: 1, Name: "q"}, "d/q/": {Dir: 3, Name: "q"}, "/a/q///": {Dir: 9, Name: "q"},
		// Links with a slash behind them are followed, whether one is to follow or not.
		"s/": {Dir: 1, Name: "d", Ino: 3}, "s//": {Dir: 1, Name: "d", Ino: 3}, "r/": {Ino: 1}, "m/": {Dir: 12, Name: "x", Ino: 2},
		"d/s/": {Dir: 3, Name: "e", Ino: 12}, "d/here/": {Ino: 3}, "d/e/up/": {Ino: 3}, "nt/": {Dir: 1, Name: "none"}, "ns//": {Dir: 1, Name: "none"},
	} {
		expectBoth(t, tree(), "/", p, want)
	}
	for _, p := range []string{"b/", "b//", "d/f/", "/d/e/f//", "ft/", "fs/", "d/t/", "d/t//"} {
		expectErr(t, tree(), "/", p, api.ErrNotDir)
	}
	expectErr(t, tree(), "/", "q//x", api.ErrNone)
	expectErr(t, tree(), "/", "b//x", api.ErrNotDir)
}

func TestLinkAtTheEnd(t *testing.T) {
	for _, x := range []struct {
		p               string
		link, following api.Spotted
	}{
		{"s", api.Spotted{Dir: 1, Name: "s", Ino: 10}, api.Spotted{Dir: 1, Name: "d", Ino: 3}},
		{"/ft", api.Spotted{Dir: 1, Name: "ft", Ino: 14}, api.Spotted{Dir: 1, Name: "b", Ino: 4}},
		{"nt", api.Spotted{Dir: 1, Name: "nt", Ino: 13}, api.Spotted{Dir: 1, Name: "none"}},
		{"ns", api.Spotted{Dir: 1, Name: "ns", Ino: 17}, api.Spotted{Dir: 1, Name: "none"}},
		{"r", api.Spotted{Dir: 1, Name: "r", Ino: 11}, api.Spotted{Ino: 1}},
		{"m", api.Spotted{Dir: 1, Name: "m", Ino: 16}, api.Spotted{Dir: 12, Name: "x", Ino: 2}},
		{"z", api.Spotted{Dir: 1, Name: "z", Ino: 22}, api.Spotted{Dir: 3, Name: "e", Ino: 12}},
		{"d/s", api.Spotted{Dir: 3, Name: "s", Ino: 8}, api.Spotted{Dir: 3, Name: "e", Ino: 12}},
		{"s/s", api.Spotted{Dir: 3, Name: "s", Ino: 8}, api.Spotted{Dir: 3, Name: "e", Ino: 12}},
		{"d/t", api.Spotted{Dir: 3, Name: "t", Ino: 18}, api.Spotted{Dir: 1, Name: "b", Ino: 4}},
		{"d/here", api.Spotted{Dir: 3, Name: "here", Ino: 19}, api.Spotted{Ino: 3}},
		{"d/e/up", api.Spotted{Dir: 12, Name: "up", Ino: 20}, api.Spotted{Ino: 3}},
		{"d/back", api.Spotted{Dir: 3, Name: "back", Ino: 21}, api.Spotted{Dir: 3, Name: "e", Ino: 12}},
	} {
		expect(t, tree(), "/", x.p, false, x.link, api.OK)
		expect(t, tree(), "/", x.p, true, x.following, api.OK)
	}
	// The target's slash asks for a directory, but only where the link is followed.
	expect(t, tree(), "/", "fs", false, api.Spotted{Dir: 1, Name: "fs", Ino: 15}, api.OK)
	expect(t, tree(), "/", "fs", true, api.Spotted{}, api.ErrNotDir)
}

func TestLinkInTheMiddle(t *testing.T) {
	for p, want := range map[string]api.Spotted{
		"s/f":                {Dir: 3, Name: "f", Ino: 7},
		"s/q":                {Dir: 3, Name: "q"},
		"s/.":                {Ino: 3},
		"s/..":               {Ino: 1},
		"m/..":               {Ino: 12},
		"m/../../f":          {Dir: 3, Name: "f", Ino: 7},
		"z/x":                {Dir: 12, Name: "x", Ino: 2},
		"z/..":               {Ino: 3},
		"r/d":                {Dir: 1, Name: "d", Ino: 3},
		"r/.":                {Ino: 1},
		"r/r/r/b":            {Dir: 1, Name: "b", Ino: 4},
		"d/s/f":              {Dir: 12, Name: "f", Ino: 7},
		"d/here/f":           {Dir: 3, Name: "f", Ino: 7},
		"d/here/here/here/f": {Dir: 3, Name: "f", Ino: 7},
		"d/e/up/f":           {Dir: 3, Name: "f", Ino: 7},
		"d/e/up/e/up/..":     {Ino: 1},
		"d/back/x":           {Dir: 12, Name: "x", Ino: 2},
		"s/back/up/here/q":   {Dir: 3, Name: "q"},
	} {
		expectBoth(t, tree(), "/", p, want)
	}
	// Links in the middle are followed even where the last name isn't; the last one is so where one is to follow.
	expect(t, tree(), "/a", "../s/here/s", false, api.Spotted{Dir: 3, Name: "s", Ino: 8}, api.OK)
	expect(t, tree(), "/a", "../s/here/s", true, api.Spotted{Dir: 3, Name: "e", Ino: 12}, api.OK)
	expect(t, tree(), "/a", "../s/e/up", false, api.Spotted{Dir: 12, Name: "up", Ino: 20}, api.OK)
	expect(t, tree(), "/a", "../s/e/up", true, api.Spotted{Ino: 3}, api.OK)
}

func TestTargetsLinks(t *testing.T) {
	f := treeOf(
		line{"/d", api.Dir, 2, ""},
		line{"/d/f", api.File, 3, "abc"},
		line{"/d/l", api.Sym, 4, "f"},
		line{"/d/ls", api.Sym, 5, "f/"},
		line{"/p", api.Sym, 6, "d/l"},
		line{"/ps", api.Sym, 7, "d/ls"},
		line{"/pt", api.Sym, 8, "d/l/"},
		line{"/u", api.Sym, 9, "v/"},
		line{"/v", api.Sym, 10, "//d"},
		line{"/w", api.Sym, 11, "u/../u/l"},
	)
	expectSound(t, f)
	file := api.Spotted{Dir: 2, Name: "f", Ino: 3}
	// Of a target that is followed the last name is, too, with whatever follow its path is sought.
	expect(t, f, "/", "p", true, file, api.OK)
	expect(t, f, "/", "w", true, file, api.OK)
	expect(t, f, "/", "p", false, api.Spotted{Dir: 1, Name: "p", Ino: 6}, api.OK)
	expect(t, f, "/", "ps", true, api.Spotted{}, api.ErrNotDir)
	expect(t, f, "/", "pt", true, api.Spotted{}, api.ErrNotDir)
	expectErr(t, f, "/", "p/", api.ErrNotDir)
	expectErr(t, f, "/", "p/.", api.ErrNotDir)
	expectBoth(t, f, "/", "u/", api.Spotted{Dir: 1, Name: "d", Ino: 2})
	expectBoth(t, f, "/", "u/f", file)
	expectBoth(t, f, "/", "u/..", api.Spotted{Ino: 1})
	// A slash at the end of a target behind which other names are to go asks nothing of the path's end.
	expect(t, f, "/", "u/l", true, file, api.OK)
	expect(t, f, "/", "u/l", false, api.Spotted{Dir: 2, Name: "l", Ino: 4}, api.OK)
	expectBoth(t, f, "/", "u/q", api.Spotted{Dir: 2, Name: "q"})
}

func TestGreatestLengths(t *testing.T) {
	n, o := strings.Repeat("n", 255), strings.Repeat("o", 255)
	var lines []line
	for i := range 16 {
		lines = append(lines, line{strings.Repeat("/"+n, i+1), api.Dir, i + 2, ""})
	}
	f := treeOf(append(lines, line{"/b", api.File, 40, ""})...)
	expectSound(t, f)
	deep := strings.Repeat("/"+n, 15)
	expectBoth(t, f, "/", n, api.Spotted{Dir: 1, Name: n, Ino: 2})
	expectBoth(t, f, "/", o, api.Spotted{Dir: 1, Name: o})
	expectBoth(t, f, "/", deep+"/"+o[:254], api.Spotted{Dir: 16, Name: o[:254]})
	expectErr(t, f, "/", deep+"/"+o, api.ErrName)
	expectErr(t, f, "/", deep+"/"+n, api.ErrName)
	expectErr(t, f, "/", deep+"/"+n[:254]+"/", api.ErrName)
	expectBoth(t, f, deep, n, api.Spotted{Dir: 16, Name: n, Ino: 17})
	expectHome(t, f, deep+"/"+n, 17, api.OK)
	dots := strings.Repeat("./", 2047)
	expectBoth(t, f, "/", "/"+dots, api.Spotted{Ino: 1})
	expectBoth(t, f, "/"+n, dots+".", api.Spotted{Ino: 2})
	expectErr(t, f, "/", "//"+dots, api.ErrName)
	expectErr(t, f, "/", dots+"./", api.ErrName)
	expectErr(t, f, "/", strings.Repeat("/", 4096), api.ErrName)
	expectBoth(t, f, "/", strings.Repeat("/", 4095), api.Spotted{Ino: 1})
	// A path that is too long is refused ahead of what its way meets.
	for _, p := range []string{n + "n", n + "n/", "/" + n + "n", "b/" + n + "n", "none/" + n + "n", n + "n/b", n + "n/..", "b/x/" + dots + "/", "none/x/" + dots} {
		expectErr(t, f, "/", p, api.ErrName)
	}
}

func TestTargetsLengths(t *testing.T) {
	n := strings.Repeat("n", 255)
	f := treeOf(
		line{"/b", api.File, 2, "abc"},
		line{"/d", api.Dir, 3, ""},
		line{"/dots", api.Sym, 4, strings.Repeat("./", 2047) + "d"},
		line{"/l", api.Sym, 5, n + "n"},
		line{"/lb", api.Sym, 6, "b/" + n + "n"},
		line{"/ld", api.Sym, 7, "/d/../" + n + "n/.."},
		line{"/ln", api.Sym, 8, "none/" + n + "n/"},
		line{"/n", api.Sym, 9, n},
		line{"/to", api.Sym, 10, "d/../l"},
	)
	expectSound(t, f)
	for _, name := range []string{"l", "lb", "ld", "ln", "to"} {
		expect(t, f, "/", name, true, api.Spotted{}, api.ErrName)
		if got, e := Seek(f, "/", name, false); got.Name != name || got.Dir != 1 || e != api.OK {
			t.Errorf("Seek of %q, not following: %+v, %d", name, got, e)
		}
		for _, behind := range []string{"/", "/.", "/x", "/../b"} {
			expectErr(t, f, "/", name+behind, api.ErrName)
		}
	}
	expect(t, f, "/", "n", true, api.Spotted{Dir: 1, Name: n}, api.OK)
	expectErr(t, f, "/", "n/x", api.ErrNone)
	expect(t, f, "/", "dots", true, api.Spotted{Dir: 1, Name: "d", Ino: 3}, api.OK)
	expectBoth(t, f, "/", strings.Repeat("dots/../", 39)+"dots/q", api.Spotted{Dir: 3, Name: "q"})
	// What is met ahead of the link comes first.
	expectErr(t, f, "/", "b/l/x", api.ErrNotDir)
	expectErr(t, f, "/", "none/l/x", api.ErrNone)
	// MaxLoops is named ahead of a target that is too long.
	expectErr(t, f, "/", strings.Repeat("dots/../", 39)+"l/x", api.ErrName)
	expectErr(t, f, "/", strings.Repeat("dots/../", 40)+"l/x", api.ErrLoop)
}

// chain answers a file system of links each of which leads to the one ahead, l1 to the target.
func chain(many int, target string, slash string) api.Fs {
	lines := []line{{"/d", api.Dir, 2, ""}, {"/d/f", api.File, 3, "abc"}}
	for i := range many {
		lines = append(lines, line{fmt.Sprintf("/l%d", i+1), api.Sym, 4 + i, target + slash})
		target = fmt.Sprintf("l%d", i+1)
	}
	return treeOf(lines...)
}

func TestChains(t *testing.T) {
	for _, slash := range []string{"", "/"} {
		f := chain(45, "d", slash)
		expectSound(t, f)
		d := api.Spotted{Dir: 1, Name: "d", Ino: 2}
		for i := 1; i <= 45; i++ {
			p := fmt.Sprintf("l%d", i)
			expect(t, f, "/", p, false, api.Spotted{Dir: 1, Name: p, Ino: 3 + i}, api.OK)
			if i > 40 {
				expect(t, f, "/", p, true, api.Spotted{}, api.ErrLoop)
				expectErr(t, f, "/", p+"/", api.ErrLoop)
				expectErr(t, f, "/", p+"/f", api.ErrLoop)
				expectErr(t, f, "/", p+"/..", api.ErrLoop)
				continue
			}
			expect(t, f, "/", p, true, d, api.OK)
			expectBoth(t, f, "/", p+"/", d)
			expectBoth(t, f, "/", p+"/f", api.Spotted{Dir: 2, Name: "f", Ino: 3})
			expectBoth(t, f, "/", p+"/..", api.Spotted{Ino: 1})
		}
	}
	f := chain(41, "none", "")
	expect(t, f, "/", "l40", true, api.Spotted{Dir: 1, Name: "none"}, api.OK)
	expectErr(t, f, "/", "l40/x", api.ErrNone)
	expectErr(t, f, "/", "l41/x", api.ErrLoop)
}

func TestLinksOfOnePathAreCounted(t *testing.T) {
	f := treeOf(line{"/d", api.Dir, 2, ""}, line{"/d/k", api.Sym, 3, "."}, line{"/r", api.Sym, 4, "/"}, line{"/f", api.File, 5, ""})
	forty := strings.Repeat("k/", 40)
	expectBoth(t, f, "/d", forty, api.Spotted{Ino: 2})
	expectBoth(t, f, "/d", forty+"q", api.Spotted{Dir: 2, Name: "q"})
	expectBoth(t, f, "/d", forty+"..", api.Spotted{Ino: 1})
	expect(t, f, "/d", forty+"k", false, api.Spotted{Dir: 2, Name: "k", Ino: 3}, api.OK)
	expect(t, f, "/d", forty+"k", true, api.Spotted{}, api.ErrLoop)
	expectErr(t, f, "/d", forty+"k/", api.ErrLoop)
	expectErr(t, f, "/d", forty+"k/q", api.ErrLoop)
	expectErr(t, f, "/d", forty+"k/none/x", api.ErrLoop)
	expectErr(t, f, "/d", forty+"none/k/q", api.ErrNone)
	expectErr(t, f, "/d", forty+"../f/k/q", api.ErrNotDir)
	expectBoth(t, f, "/", strings.Repeat("r/", 40)+"f", api.Spotted{Dir: 1, Name: "f", Ino: 5})
	expectErr(t, f, "/", strings.Repeat("r/", 41)+"f", api.ErrLoop)
}

func TestLoops(t *testing.T) {
	f := treeOf(
		line{"/d", api.Dir, 2, ""},
		line{"/d/in", api.Sym, 3, "../d/in/x"},
		line{"/me", api.Sym, 4, "me"},
		line{"/mes", api.Sym, 5, "mes/"},
		line{"/one", api.Sym, 6, "/other"},
		line{"/other", api.Sym, 7, "one"},
		line{"/grow", api.Sym, 8, "grow/" + strings.Repeat("grow/", 800) + "x"},
	)
	expectSound(t, f)
	for _, p := range []string{"me", "mes", "one", "other", "grow", "d/in"} {
		if got, e := Seek(f, "/", p, false); got.Ino == 0 || e != api.OK {
			t.Errorf("Seek of %q, not following: %+v, %d", p, got, e)
		}
		expect(t, f, "/", p, true, api.Spotted{}, api.ErrLoop)
		for _, behind := range []string{"/", "/x", "/.", "/..", "/../d"} {
			expectErr(t, f, "/", p+behind, api.ErrLoop)
		}
	}
}

// P10.3

func TestDir(t *testing.T) {
	for _, p := range []string{"/", ".", "..", "d", "d/", "d/.", "d/e/..", "s", "s/", "s/e", "r", "r/", "m", "z", "d/s", "d/here", "d/e/up", "d/back/x", "//a//"} {
		if !Dir(tree(), "/", p) {
			t.Errorf("Dir of %q: false", p)
		}
	}
	for _, p := range []string{"", "b", "b/", "b/.", "d/f", "s/f", "ft", "fs", "d/t", "ft/", "nt", "ns", "nt/", "none", "none/", "none/x", "b/x", "d/none", "none/..", strings.Repeat("n", 256), strings.Repeat("/", 4096)} {
		if Dir(tree(), "/", p) {
			t.Errorf("Dir of %q: true", p)
		}
	}
	for base, want := range map[string]bool{"/d": true, "/": false, "/a": false, "/b": false, "/s": false, "/none": false, "d": false, "": false, "/d/": false} {
		if Dir(tree(), base, "e") != want {
			t.Errorf("Dir of e from %q: %t", base, !want)
		}
		if !Dir(tree(), base, "/d/e") {
			t.Errorf("Dir of /d/e from %q: false", base)
		}
	}
	if f := chain(41, "d", ""); !Dir(f, "/", "l40") || Dir(f, "/", "l41") {
		t.Error("Dir of chains of links")
	}
}

// P10.4, and P10.2 and P10.3 in each small tree

// targets are those of generated trees' links.
var targets = []string{"a", "b/", "/", "../b/.", "/a/c"}

// names are those of generated trees' entries.
var names = []string{"a", "b", "c"}

// grow hands each tree of the lines, and of more of them, to do.
func grow(lines []line, targets []string, do func(api.Fs)) {
	do(treeOf(lines...))
	if len(lines) == len(names) {
		return
	}
	dirs := []string{""}
	for _, l := range lines {
		if l.kind == api.Dir {
			dirs = append(dirs, l.path)
		}
	}
	for _, dir := range dirs {
		p, ino := dir+"/"+names[len(lines)], 20-len(lines)
		grow(append(slices.Clone(lines), line{p, api.Dir, ino, ""}), targets, do)
		grow(append(slices.Clone(lines), line{p, api.File, ino, "a"}), targets, do)
		for _, target := range targets {
			grow(append(slices.Clone(lines), line{p, api.Sym, ino, target}), targets, do)
		}
	}
}

// paths answers all texts of at most so many of the parts, with a slash between two.
func paths(most int, parts ...string) []string {
	var all []string
	last := []string{""}
	for i := range most {
		var longer []string
		for _, p := range last {
			for _, part := range parts {
				if i > 0 {
					part = p + "/" + part
				}
				longer = append(longer, part)
			}
		}
		all, last = append(all, longer...), longer
	}
	return all
}

func TestEachSmallTree(t *testing.T) {
	// An empty part makes a slash at the beginning or the end, or two of them.
	all := paths(3, "a", "b", "c", ".", "..", "")
	var trees []api.Fs
	grow(nil, targets, func(f api.Fs) { trees = append(trees, f) })
	if len(trees) < 500 {
		t.Errorf("%d trees", len(trees))
	}
	// Links that lead to themselves take long: the parts are gone through beside each other.
	const parts = 8
	for part := range parts {
		t.Run(fmt.Sprint(part), func(t *testing.T) {
			t.Parallel()
			for i := part; i < len(trees); i += parts {
				base := "/"
				if x, e := place.Get(trees[i], "/a"); e == api.OK && x.Kind == api.Dir {
					base = "/a"
				}
				for _, p := range all {
					expectSought(t, trees[i], base, p)
				}
			}
		})
	}
}

func TestNamesAloneLeadWherePlainPathsDo(t *testing.T) {
	all := paths(4, "a", "b", "c", "q")
	grow(nil, nil, func(f api.Fs) {
		for _, p := range all {
			want, wantErr := place.At(f, "/"+p)
			for _, follow := range []bool{false, true} {
				expect(t, f, "/", p, follow, want, wantErr)
				expect(t, f, "", "/"+p, follow, want, wantErr)
			}
			first, rest, more := strings.Cut(p, "/")
			if x, e := place.Get(f, "/"+first); more && e == api.OK && x.Kind == api.Dir {
				expect(t, f, "/"+first, rest, true, want, wantErr)
			}
		}
	})
	f := tree()
	for _, p := range []string{"/", "/s", "/r", "/nt", "/d/s", "/d/e/up"} {
		// A link that isn't followed isn't met on the way.
		want, wantErr := place.At(f, p)
		expect(t, f, "/", p, false, want, wantErr)
	}
}

func TestDeepAndLong(t *testing.T) {
	const many = 1 << 11
	f := api.Fs{MaxInodes: many + 1, Next: many + 2}
	for ino := 1; ino <= many; ino++ {
		f.Inodes = append(f.Inodes, api.Inode{Ino: ino, Kind: api.Dir, Links: 1, Parent: max(ino-1, 1), Entries: []api.Entry{{Name: "n", Ino: ino + 1}}})
	}
	f.Inodes[0].Links = 0
	f.Inodes = append(f.Inodes, api.Inode{Ino: many + 1, Kind: api.Sym, Links: 1, Data: strings.Repeat("../", 1000) + strings.Repeat("n/", 500) + "n"})
	expectSound(t, f)
	deepest := strings.Repeat("/n", many-1)
	expectHome(t, f, strings.Repeat("/n", many-2), many-1, api.OK)
	expectBoth(t, f, deepest, "./.", api.Spotted{Ino: many})
	expectBoth(t, f, deepest, strings.Repeat("../", 1300), api.Spotted{Ino: many - 1300})
	expect(t, f, deepest, "n", true, api.Spotted{Dir: many - 500, Name: "n", Ino: many - 499}, api.OK)
	expect(t, f, "/", deepest[1:], true, api.Spotted{Dir: many - 1, Name: "n", Ino: many}, api.OK)
}

// P10.5

// roomy answers the file system in lists of its own, each with room behind it that isn't empty.
func roomy(f api.Fs) api.Fs {
	behind := api.Entry{Name: "zzz", Ino: 77}
	f = copied(f)
	for i, x := range f.Inodes {
		f.Inodes[i].Entries = append(x.Entries, behind, behind, behind)[:len(x.Entries)]
	}
	last := api.Inode{Ino: 77, Kind: api.File, Links: 8, Data: "behind"}
	f.Inodes = append(f.Inodes, last, last, last)[:len(f.Inodes)]
	return f
}

// wholly answers the file system with the room behind its lists laid open.
func wholly(f api.Fs) api.Fs {
	f.Inodes = slices.Clone(f.Inodes[:cap(f.Inodes)])
	for i, x := range f.Inodes {
		f.Inodes[i].Entries = x.Entries[:cap(x.Entries)]
	}
	return copied(f)
}

func TestHandedInStays(t *testing.T) {
	f := roomy(tree())
	before := wholly(f)
	for _, base := range append(notPlain(), "/", "/d", "/d/e", "/b", "/s", "/none") {
		Home(f, base)
		for _, p := range append(paths(2, "d", "e", "s", "r", "m", "ft", "nt", "ns", "here", "up", "b", "zzz", ".", "..", ""), strings.Repeat("n", 256)) {
			Dir(f, base, p)
			Seek(f, base, p, true)
			Seek(f, base, p, false)
		}
	}
	if after := wholly(f); !reflect.DeepEqual(after, before) {
		t.Errorf("handed in: %+v, not %+v", after, before)
	}
}

func TestRoomIsNotGoneThrough(t *testing.T) {
	f := roomy(tree())
	expectBoth(t, f, "/", "zzz", api.Spotted{Dir: 1, Name: "zzz"})
	expectBoth(t, f, "/d", "e/zzz/", api.Spotted{Dir: 12, Name: "zzz"})
	expectErr(t, f, "/", "zzz/x", api.ErrNone)
	expectHome(t, f, "/zzz", 0, api.ErrNone)
}

// shares tells whether two texts have memory in common.
func shares(a, b string) bool {
	if a == "" || b == "" {
		return false
	}
	x, y := uintptr(unsafe.Pointer(unsafe.StringData(a))), uintptr(unsafe.Pointer(unsafe.StringData(b)))
	return x < y+uintptr(len(b)) && y < x+uintptr(len(a))
}

func TestTextsAreNew(t *testing.T) {
	f := tree()
	var handed, answered []string
	for _, x := range f.Inodes {
		handed = append(handed, x.Data)
		for _, e := range x.Entries {
			handed = append(handed, e.Name)
		}
	}
	for _, p := range []string{"b", "q", "d/f", "s", "m", "ft", "nt", "ns", "z", "d/back", "d/t", "s/e/q"} {
		handed = append(handed, p)
		for _, follow := range []bool{false, true, true} {
			at, e := Seek(f, "/", p, follow)
			if at.Name == "" {
				t.Errorf("Seek of %q: %+v, %d", p, at, e)
			}
			answered = append(answered, at.Name)
		}
	}
	for i, a := range answered {
		for _, b := range slices.Concat(handed, answered[:i]) {
			if shares(a, b) {
				t.Errorf("%q, which was answered, shares memory with %q", a, b)
			}
		}
	}
}

// The rules that hold everywhere

func TestWhateverIsHandedInIsAnswered(t *testing.T) {
	// Of file systems that aren't sound nothing is promised but that the calls end, and leave what is handed in.
	var broken []api.Fs
	for _, change := range []func(f *api.Fs){
		func(f *api.Fs) { f.Inodes = nil },
		func(f *api.Fs) { f.Inodes = f.Inodes[1:] },
		func(f *api.Fs) { f.Inodes = f.Inodes[:3] },
		func(f *api.Fs) { slices.Reverse(f.Inodes) },
		func(f *api.Fs) { slices.Reverse(f.Inodes[0].Entries) },
		func(f *api.Fs) { f.Inodes[2].Parent = 0 },
		func(f *api.Fs) { f.Inodes[2].Parent = 12 },
		func(f *api.Fs) { f.Inodes[0].Entries[2].Ino = 0 },
		func(f *api.Fs) { f.Inodes[0].Entries[2].Ino = 1 },
		func(f *api.Fs) {
			for i := range f.Inodes {
				f.Inodes[i].Data = ""
			}
		},
		func(f *api.Fs) {
			for i := range f.Inodes {
				f.Inodes[i].Kind = api.Sym
			}
		},
		func(f *api.Fs) {
			for i := range f.Inodes {
				f.Inodes[i].Data = strings.Repeat("d/", 3000)
			}
		},
	} {
		f := copied(tree())
		change(&f)
		broken = append(broken, f)
	}
	for _, f := range append(broken, api.Fs{}) {
		before := copied(f)
		for _, base := range []string{"", "/", "/d", "/d/e", "/s", "/none", "d", "\xff"} {
			Home(f, base)
			for _, p := range append(paths(2, "d", "e", "s", "up", "here", "m", "nt", "b", ".", "..", "", "\x00", "\xff"), strings.Repeat("/", 5000)) {
				Dir(f, base, p)
				Seek(f, base, p, true)
				Seek(f, base, p, false)
			}
		}
		if !reflect.DeepEqual(copied(f), before) {
			t.Errorf("handed in: %+v, not %+v", f, before)
		}
	}
}
