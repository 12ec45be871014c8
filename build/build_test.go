package build

import (
	"cmp"
	"fmt"
	"math"
	"reflect"
	"slices"
	"strconv"
	"strings"
	"testing"
	"unsafe"

	"drayman/api"
	"drayman/create"
	"drayman/data"
	"drayman/drop"
	"drayman/move"
	"drayman/sound"
	"drayman/table"
	"drayman/walk"
)

// dir answers a directory of that number in that one, with these entries, rising, each a name, an equals sign and a number.
func dir(ino, parent int, entries ...string) api.Inode {
	x := api.Inode{Ino: ino, Kind: api.Dir, Links: 1, Parent: parent}
	for _, text := range entries {
		name, number, _ := strings.Cut(text, "=")
		n, _ := strconv.Atoi(number)
		x.Entries = append(x.Entries, api.Entry{Name: name, Ino: n})
	}
	return x
}

// root answers Root with these entries.
func root(entries ...string) api.Inode {
	x := dir(1, 1, entries...)
	x.Links = 0
	return x
}

// file answers a file of that number, of so many entries.
func file(ino, links int, text string) api.Inode {
	return api.Inode{Ino: ino, Kind: api.File, Links: links, Data: text}
}

// sym answers a symbolic link of that number, of one entry.
func sym(ino int, target string) api.Inode {
	return api.Inode{Ino: ino, Kind: api.Sym, Links: 1, Data: target}
}

// binary is the data of one of the tree's files.
const binary = "\x00\xffdata"

// tree answers a file system of directories in one another, two of them without entries, files of one name and of three, and links: to directories, to a file, to nothing and to itself; with room for two inodes and three bytes more.
func tree() api.Fs {
	return api.Fs{MaxInodes: 15, MaxBytes: 12, Next: 40, Inodes: []api.Inode{
		root("a=9", "b=4", "d=3", "dead=13", "g=7", "me=17", "s=10", "tob=21"),
		dir(3, 1, "e=12", "f=7", "r=11"),
		file(4, 1, "abc"),
		file(7, 3, binary),
		dir(9, 1),
		sym(10, "d/"),
		sym(11, "/"),
		dir(12, 3, "h=7", "up=20", "v=22"),
		sym(13, "d/none"),
		sym(17, "me"),
		sym(20, ".."),
		sym(21, "b"),
		dir(22, 12),
	}}
}

// changed answers the file system of that Next, with these inodes in place of those of their numbers; of one of Kind 0 there is none.
func changed(f api.Fs, next int, inodes ...api.Inode) api.Fs {
	f = copied(f)
	f.Next = next
	for _, x := range inodes {
		f.Inodes = slices.DeleteFunc(f.Inodes, func(y api.Inode) bool { return y.Ino == x.Ino })
		if x.Kind != 0 {
			f.Inodes = append(f.Inodes, x)
		}
	}
	slices.SortFunc(f.Inodes, func(x, y api.Inode) int { return cmp.Compare(x.Ino, y.Ino) })
	return f
}

// copied answers the file system in lists of its own, those that are empty as nil.
func copied(f api.Fs) api.Fs {
	var inodes []api.Inode
	for _, x := range f.Inodes {
		x.Entries = append([]api.Entry(nil), x.Entries...)
		inodes = append(inodes, x)
	}
	f.Inodes = inodes
	return f
}

// alike tells whether two file systems read alike.
func alike(f, g api.Fs) bool { return reflect.DeepEqual(copied(f), copied(g)) }

// expectSound asks whether the file system is sound.
func expectSound(t *testing.T, f api.Fs) {
	t.Helper()
	if n := sound.Check(f); n != 0 {
		t.Fatalf("%.300s isn't sound: rule %d", fmt.Sprint(f), n)
	}
}

// short answers the call as text, of a length that can be told.
func short(c api.Call) string {
	return fmt.Sprintf("call %d of %.30q, %.30q and %.30q", c.Op, c.A, c.B, c.Data)
}

// expectDo asks Do for the file system and the error, and answers the file system.
func expectDo(t *testing.T, f api.Fs, base string, c api.Call, want api.Fs, wantErr api.Errno) api.Fs {
	t.Helper()
	got, e := Do(f, base, c)
	if e != wantErr || !alike(got, want) {
		t.Fatalf("%s from %.30q: %.900s, %d, not %.900s, %d", short(c), base, fmt.Sprint(got), e, fmt.Sprint(want), wantErr)
	}
	expectSound(t, got)
	return got
}

// expectRun asks Run, from Root, for the errors, and answers the file system.
func expectRun(t *testing.T, f api.Fs, l []api.Call, want ...api.Errno) api.Fs {
	t.Helper()
	got, told := Run(f, "/", l)
	if !slices.Equal(told, want) {
		t.Fatalf("Run of %v: %v, not %v", l, told, want)
	}
	expectSound(t, got)
	return got
}

// straight answers, of the chapter's words alone, what the function of the call's Op answers.
func straight(f api.Fs, base string, c api.Call) (api.Fs, api.Errno) {
	switch c.Op {
	case api.CallMkdir:
		return create.Mkdir(f, base, c.A)
	case api.CallCreate:
		return create.Create(f, base, c.A, c.Data)
	case api.CallWrite:
		return data.Write(f, base, c.A, c.Data)
	case api.CallSymlink:
		return create.Symlink(f, base, c.Data, c.A)
	case api.CallLink:
		return drop.Link(f, base, c.A, c.B)
	case api.CallUnlink:
		return drop.Unlink(f, base, c.A)
	case api.CallRmdir:
		return drop.Rmdir(f, base, c.A)
	case api.CallRename:
		return move.Rename(f, base, c.A, c.B)
	}
	return f, api.ErrArg
}

// straightRun answers, of the chapter's words alone, what Run does.
func straightRun(f api.Fs, base string, l []api.Call) (api.Fs, []api.Errno) {
	var told []api.Errno
	for _, c := range l {
		g, e := straight(f, base, c)
		told = append(told, e)
		if e == api.OK {
			f = g
		}
	}
	return f, told
}

// The calls, each with just what it has.

func mkdir(p string) api.Call         { return api.Call{Op: api.CallMkdir, A: p} }
func creat(p, text string) api.Call   { return api.Call{Op: api.CallCreate, A: p, Data: text} }
func write(p, text string) api.Call   { return api.Call{Op: api.CallWrite, A: p, Data: text} }
func symlink(to, p string) api.Call   { return api.Call{Op: api.CallSymlink, A: p, Data: to} }
func link(from, to string) api.Call   { return api.Call{Op: api.CallLink, A: from, B: to} }
func unlink(p string) api.Call        { return api.Call{Op: api.CallUnlink, A: p} }
func rmdir(p string) api.Call         { return api.Call{Op: api.CallRmdir, A: p} }
func rename(from, to string) api.Call { return api.Call{Op: api.CallRename, A: from, B: to} }

// P15.1

func TestChaptersExample(t *testing.T) {
	f, _ := table.New(9, 9)
	got := expectRun(t, f, []api.Call{mkdir("a"), creat("a/f", ""), unlink("a")}, api.OK, api.OK, api.ErrIsDir)
	want := api.Fs{MaxInodes: 9, MaxBytes: 9, Next: 4, Inodes: []api.Inode{root("a=2"), dir(2, 1, "f=3"), file(3, 1, "")}}
	if !alike(got, want) {
		t.Errorf("%+v, not %+v", got, want)
	}
}

func TestTheOps(t *testing.T) {
	// As the document's package api numbers them.
	f := tree()
	whole := root("a=9", "b=4", "d=3", "dead=13", "g=7", "me=17", "q=40", "s=10", "tob=21")
	expectDo(t, f, "/", api.Call{Op: 1, A: "q"}, changed(f, 41, whole, dir(40, 1)), api.OK)
	expectDo(t, f, "/", api.Call{Op: 2, A: "q", Data: "xy"}, changed(f, 41, whole, file(40, 1, "xy")), api.OK)
	expectDo(t, f, "/", api.Call{Op: 3, A: "b", Data: "xy"}, changed(f, 40, file(4, 1, "xy")), api.OK)
	expectDo(t, f, "/", api.Call{Op: 4, A: "q", Data: "xy"}, changed(f, 41, whole, sym(40, "xy")), api.OK)
	expectDo(t, f, "/", api.Call{Op: 5, A: "b", B: "a/q"}, changed(f, 40, dir(9, 1, "q=4"), file(4, 2, "abc")), api.OK)
	expectDo(t, f, "/", api.Call{Op: 6, A: "b"}, changed(f, 40, root("a=9", "d=3", "dead=13", "g=7", "me=17", "s=10", "tob=21"), api.Inode{Ino: 4}), api.OK)
	expectDo(t, f, "/", api.Call{Op: 7, A: "a"}, changed(f, 40, root("b=4", "d=3", "dead=13", "g=7", "me=17", "s=10", "tob=21"), api.Inode{Ino: 9}), api.OK)
	expectDo(t, f, "/", api.Call{Op: 8, A: "d/e/h", B: "d/e/w"}, changed(f, 40, dir(12, 3, "up=20", "v=22", "w=7")), api.OK)
}

// trial is a call from a base, and what comes of it: the Next and the inodes that are others then, if any are, or the error.
type trial struct {
	base   string
	call   api.Call
	next   int
	inodes []api.Inode
	e      api.Errno
}

// trials answers calls of the tree, of each Op, done and refused.
func trials() []trial {
	type inodes = []api.Inode
	gone := func(ino int) api.Inode { return api.Inode{Ino: ino} }
	done := []trial{
		{"/", mkdir("a/q"), 41, inodes{dir(9, 1, "q=40"), dir(40, 9)}, 0},
		{"/d", mkdir("e/v/q/"), 41, inodes{dir(22, 12, "q=40"), dir(40, 22)}, 0},
		{"/a", mkdir("/s/q"), 41, inodes{dir(3, 1, "e=12", "f=7", "q=40", "r=11"), dir(40, 3)}, 0},
		{"/none", mkdir("/a/q"), 41, inodes{dir(9, 1, "q=40"), dir(40, 9)}, 0},
		{"/", mkdir("dead/"), 41, inodes{dir(3, 1, "e=12", "f=7", "none=40", "r=11"), dir(40, 3)}, 0},
		{"/", creat("a/q", ""), 41, inodes{dir(9, 1, "q=40"), file(40, 1, "")}, 0},
		{"/a", creat("../d/r/a/q", "xyz"), 41, inodes{dir(9, 1, "q=40"), file(40, 1, "xyz")}, 0},
		{"d", creat("/a/q", "\x00/\n"), 41, inodes{dir(9, 1, "q=40"), file(40, 1, "\x00/\n")}, 0},
		{"/", write("b", ""), 40, inodes{file(4, 1, "")}, 0},
		{"/", write("tob", "012345"), 40, inodes{file(4, 1, "012345")}, 0},
		{"/d/e", write("up/f", "x"), 40, inodes{file(7, 3, "x")}, 0},
		{"/b", write("/g", "012345678"), 40, inodes{file(7, 3, "012345678")}, 0},
		{"/", symlink("x", "a/q"), 41, inodes{dir(9, 1, "q=40"), sym(40, "x")}, 0},
		{"/a", symlink("/none/..", "q"), 41, inodes{dir(9, 1, "q=40"), sym(40, "/none/..")}, 0},
		{"/s", symlink("q", "/a/q"), 41, inodes{dir(9, 1, "q=40"), sym(40, "q")}, 0},
		{"/", link("b", "a/q"), 40, inodes{dir(9, 1, "q=4"), file(4, 2, "abc")}, 0},
		{"/d/e", link("h", "v/q"), 40, inodes{dir(22, 12, "q=7"), file(7, 4, binary)}, 0},
		{"/a", link("/tob", "q"), 40, inodes{dir(9, 1, "q=21"), {Ino: 21, Kind: api.Sym, Links: 2, Data: "b"}}, 0},
		{"/", unlink("d/f"), 40, inodes{dir(3, 1, "e=12", "r=11"), file(7, 2, binary)}, 0},
		{"/d", unlink("e/up"), 40, inodes{dir(12, 3, "h=7", "v=22"), gone(20)}, 0},
		{"//", unlink("/d/r"), 40, inodes{dir(3, 1, "e=12", "f=7"), gone(11)}, 0},
		{"/", rmdir("s/e/v"), 40, inodes{dir(12, 3, "h=7", "up=20"), gone(22)}, 0},
		{"/d/e", rmdir("v/"), 40, inodes{dir(12, 3, "h=7", "up=20"), gone(22)}, 0},
		{"", rmdir("/d/e/v"), 40, inodes{dir(12, 3, "h=7", "up=20"), gone(22)}, 0},
		{"/", rename("d/e/v", "a/q"), 40, inodes{dir(9, 1, "q=22"), dir(12, 3, "h=7", "up=20"), dir(22, 9)}, 0},
		{"/d", rename("f", "e/v/q"), 40, inodes{dir(3, 1, "e=12", "r=11"), dir(22, 12, "q=7")}, 0},
		{"/d/e", rename("up", "../f"), 40, inodes{dir(3, 1, "e=12", "f=20", "r=11"), dir(12, 3, "h=7", "v=22"), file(7, 2, binary)}, 0},
		{"x", rename("/d/e/h", "/d/e/q"), 40, inodes{dir(12, 3, "q=7", "up=20", "v=22")}, 0},
		{"/", rename("g", "d/f"), 40, nil, 0},
	}
	for _, x := range []struct {
		call api.Call
		e    api.Errno
	}{
		{mkdir("a"), api.ErrThere}, {mkdir("none/q"), api.ErrNone}, {mkdir("b/q"), api.ErrNotDir}, {mkdir(""), api.ErrNone}, {mkdir("me/q"), api.ErrLoop}, {mkdir("\x00"), api.ErrArg}, {mkdir(long), api.ErrName}, {mkdir("/"), api.ErrThere},
		{creat("b", ""), api.ErrThere}, {creat("q/", ""), api.ErrIsDir}, {creat("q", "0123"), api.ErrSpace}, {creat("", "x"), api.ErrNone}, {creat("q/q", "x"), api.ErrNone}, {creat("s", "x"), api.ErrThere},
		{write("q", ""), api.ErrNone}, {write("a", "x"), api.ErrIsDir}, {write("b", "0123456"), api.ErrSpace}, {write("me", "x"), api.ErrLoop}, {write("dead", "x"), api.ErrNone}, {write("b/", "x"), api.ErrNotDir},
		{symlink("", "q"), api.ErrNone}, {symlink("x\x00", "q"), api.ErrArg}, {symlink(strings.Repeat("x", 4096), "q"), api.ErrName}, {symlink("x", "b"), api.ErrThere}, {symlink("x", "q/"), api.ErrNone}, {symlink("x", ""), api.ErrNone},
		{link("a", "q"), api.ErrPerm}, {link("q", "q"), api.ErrNone}, {link("b", "g"), api.ErrThere}, {link("b", "q/"), api.ErrNone}, {link("b", "\x00"), api.ErrArg}, {link("b", ""), api.ErrNone}, {link("", "q"), api.ErrNone}, {link("b", "b/q"), api.ErrNotDir},
		{unlink("a"), api.ErrIsDir}, {unlink("q"), api.ErrNone}, {unlink("b/"), api.ErrNotDir}, {unlink("/"), api.ErrIsDir},
		{rmdir("b"), api.ErrNotDir}, {rmdir("q"), api.ErrNone}, {rmdir("/"), api.ErrBusy}, {rmdir("a/."), api.ErrArg}, {rmdir("d"), api.ErrFull}, {rmdir("s"), api.ErrNotDir},
		{rename("q", "a"), api.ErrNone}, {rename("d", "d/q"), api.ErrArg}, {rename("a", "b"), api.ErrNotDir}, {rename("b", "a"), api.ErrIsDir}, {rename("a", "d"), api.ErrFull}, {rename("/", "q"), api.ErrBusy}, {rename("b", "q/"), api.ErrNotDir}, {rename("b", ""), api.ErrNone},
	} {
		done = append(done, trial{"/", x.call, 40, nil, x.e})
	}
	return done
}

// long is a name of one byte more than a name may have.
var long = strings.Repeat("n", api.MaxName+1)

func TestEachOpDoneAndRefused(t *testing.T) {
	f := tree()
	expectSound(t, f)
	for _, x := range trials() {
		expectDo(t, f, x.base, x.call, changed(f, x.next, x.inodes...), x.e)
		// A call alone is a script of one.
		got, told := Run(f, x.base, []api.Call{x.call})
		if want, e := Do(f, x.base, x.call); !alike(got, want) || !slices.Equal(told, []api.Errno{e}) {
			t.Errorf("Run of %s alone: %+v, %v, not %+v, %d", short(x.call), got, told, want, e)
		}
	}
}

// unused answers the call with other texts in what a call of its Op has no use for.
func unused(c api.Call) []api.Call {
	var all []api.Call
	for _, text := range []string{"a", "b", "q", "q/q", "/", ".", "\x00", long, strings.Repeat("x", 5000)} {
		other := c
		switch c.Op {
		case api.CallMkdir, api.CallUnlink, api.CallRmdir:
			other.B, other.Data = text, text
		case api.CallCreate, api.CallWrite, api.CallSymlink:
			other.B = text
		case api.CallLink, api.CallRename:
			other.Data = text
		}
		all = append(all, other)
	}
	return all
}

func TestWhatACallHasNoUseFor(t *testing.T) {
	f := tree()
	for _, x := range trials() {
		for _, c := range unused(x.call) {
			if c == x.call {
				t.Fatalf("%s is as it was", short(c))
			}
			expectDo(t, f, x.base, c, changed(f, x.next, x.inodes...), x.e)
		}
	}
}

// noOps answers numbers that are no calls' Ops.
func noOps() []int {
	return []int{0, -1, 9, 10, 100, -8, 256, 257, 1 << 32, 1<<32 + 1, math.MinInt, math.MinInt + 1, math.MaxInt}
}

func TestOpsThatAreNone(t *testing.T) {
	for _, f := range []api.Fs{tree(), changed(tree(), 1<<39)} {
		for _, op := range noOps() {
			for _, base := range []string{"/", "/d", "/none", "", "/b"} {
				expectDo(t, f, base, api.Call{Op: op}, f, api.ErrArg)
				expectDo(t, f, base, api.Call{Op: op, A: "q", B: "r", Data: "x"}, f, api.ErrArg)
				expectDo(t, f, base, api.Call{Op: op, A: "/b", B: "/a/q", Data: "x"}, f, api.ErrArg)
				expectDo(t, f, base, api.Call{Op: op, A: "/a", B: long, Data: "\x00"}, f, api.ErrArg)
			}
		}
	}
	got := expectRun(t, tree(), []api.Call{{Op: 0, A: "q"}, mkdir("q"), {Op: 9, A: "q", B: "r"}, {}, rmdir("q"), {Op: -1, A: "a"}}, api.ErrArg, api.OK, api.ErrArg, api.ErrArg, api.OK, api.ErrArg)
	if want := changed(tree(), 41); !alike(got, want) {
		t.Errorf("%+v, not %+v", got, want)
	}
}

func TestWhichIsWhich(t *testing.T) {
	// Each of these would be done the other way round, too, but to another end.
	f, _ := table.New(9, 9)
	got := expectDo(t, f, "/", api.Call{Op: api.CallSymlink, A: "place", Data: "target", B: "neither"}, changed(f, 3, root("place=2"), sym(2, "target")), api.OK)
	if target, e := data.Readlink(got, "/", "place"); target != "target" || e != api.OK {
		t.Errorf("the link leads to %q, %d", target, e)
	}
	f = changed(f, 4, root("x=2", "y=3"), file(2, 1, "x's"), file(3, 1, "y's"))
	expectDo(t, f, "/", api.Call{Op: api.CallRename, A: "x", B: "y", Data: "neither"}, changed(f, 4, root("y=2"), api.Inode{Ino: 3}), api.OK)
	expectDo(t, f, "/", api.Call{Op: api.CallRename, A: "y", B: "x", Data: "neither"}, changed(f, 4, root("x=3"), api.Inode{Ino: 2}), api.OK)
	expectDo(t, f, "/", api.Call{Op: api.CallLink, A: "x", B: "z", Data: "neither"}, changed(f, 4, root("x=2", "y=3", "z=2"), file(2, 2, "x's")), api.OK)
	expectDo(t, f, "/", api.Call{Op: api.CallLink, A: "z", B: "x", Data: "neither"}, f, api.ErrNone)
	expectDo(t, f, "/", api.Call{Op: api.CallCreate, A: "q", Data: "x", B: "r"}, changed(f, 5, root("q=4", "x=2", "y=3"), file(4, 1, "x")), api.OK)
	expectDo(t, f, "/", api.Call{Op: api.CallWrite, A: "x", Data: "y", B: "y"}, changed(f, 4, file(2, 1, "y")), api.OK)
}

// Paths, bases and data that hold what the calls' own chapters name.

func somePaths() []string {
	return []string{"", "a", "b", "d", "/d/f", "/a/q", "d/e/v", "q", "q/", "d/", "s", "s/q", "tob", "me", "dead", "/", ".", "d/..", "b/q", "none/q", "\x00", long}
}

func someBases() []string { return []string{"/", "/d/e", "/a", "/none", "/b", "d", ""} }

func TestAsTheChaptersFunctions(t *testing.T) {
	f := tree()
	done := map[int]int{}
	for _, base := range someBases() {
		for op := -1; op <= 9; op++ {
			for _, a := range somePaths() {
				for _, b := range somePaths() {
					for _, text := range []string{"", "b", "0123"} {
						c := api.Call{Op: op, A: a, B: b, Data: text}
						want, wantErr := straight(f, base, c)
						got, e := Do(f, base, c)
						if e != wantErr || !table.Same(got, want) {
							t.Fatalf("%s from %q: %+v, %d, not %+v, %d", short(c), base, got, e, want, wantErr)
						}
						if e != api.OK && !table.Same(got, f) {
							t.Fatalf("%s from %q was refused by %d: %+v, not as it was", short(c), base, e, got)
						}
						if e == api.OK {
							done[op]++
						}
					}
				}
			}
		}
	}
	for op := -1; op <= 9; op++ {
		if none := op < 1 || op > 8; none != (done[op] == 0) {
			t.Errorf("of Op %d %d calls were done", op, done[op])
		}
	}
}

// P15.1's Run

func TestOfNoCall(t *testing.T) {
	f := tree()
	for _, base := range []string{"/", "/d", "/none", "", "d", "/b"} {
		for _, l := range [][]api.Call{nil, {}, make([]api.Call, 0, 8)} {
			if got, told := Run(f, base, l); !alike(got, f) || len(told) != 0 {
				t.Errorf("Run of no call from %q: %+v, %v", base, got, told)
			}
		}
	}
}

func TestCallsThatHangOnOneAnother(t *testing.T) {
	f, _ := table.New(4, 5)
	l := []api.Call{
		mkdir("d"), creat("d/f", "abc"), rename("d/f", "d/g"), write("d/g", "vwxyz"), link("d/g", "h"), rmdir("d"), unlink("d/g"), rmdir("d"), symlink("h", "s"), write("s", "xy"), unlink("s"),
	}
	want := []api.Fs{
		changed(f, 3, root("d=2"), dir(2, 1)),
		changed(f, 4, root("d=2"), dir(2, 1, "f=3"), file(3, 1, "abc")),
		changed(f, 4, root("d=2"), dir(2, 1, "g=3"), file(3, 1, "abc")),
		changed(f, 4, root("d=2"), dir(2, 1, "g=3"), file(3, 1, "vwxyz")),
		changed(f, 4, root("d=2", "h=3"), dir(2, 1, "g=3"), file(3, 2, "vwxyz")),
		changed(f, 4, root("d=2", "h=3"), dir(2, 1, "g=3"), file(3, 2, "vwxyz")),
		changed(f, 4, root("d=2", "h=3"), dir(2, 1), file(3, 1, "vwxyz")),
		changed(f, 4, root("h=3"), file(3, 1, "vwxyz")),
		changed(f, 5, root("h=3", "s=4"), file(3, 1, "vwxyz"), sym(4, "h")),
		changed(f, 5, root("h=3", "s=4"), file(3, 1, "xy"), sym(4, "h")),
		changed(f, 5, root("h=3"), file(3, 1, "xy")),
	}
	told := []api.Errno{0, 0, 0, 0, 0, api.ErrFull, 0, 0, 0, 0, 0}
	for n := range l {
		got := expectRun(t, f, l[:n+1], told[:n+1]...)
		if !alike(got, want[n]) {
			t.Errorf("behind %d calls: %+v, not %+v", n+1, got, want[n])
		}
	}
}

func TestRefusedInTheMiddle(t *testing.T) {
	f := tree()
	// What a call finds is what was there ahead of the one that was refused.
	l := []api.Call{mkdir("a/q"), mkdir("a/q"), creat("a/q/f", "xyzw"), creat("a/q/f", "xyz"), rmdir("a/q"), {Op: 77, A: "a"}, unlink("a/q"), rename("a/q/f", "a/q/g"), rename("a/q/f", "q")}
	got := expectRun(t, f, l, 0, api.ErrThere, api.ErrSpace, 0, api.ErrFull, api.ErrArg, api.ErrIsDir, 0, api.ErrNone)
	want := changed(f, 42, dir(9, 1, "q=40"), dir(40, 9, "g=41"), file(41, 1, "xyz"))
	if !alike(got, want) {
		t.Errorf("%+v, not %+v", got, want)
	}
	// The calls that were refused left out, it comes to the same.
	got = expectRun(t, f, []api.Call{l[0], l[3], l[7]}, 0, 0, 0)
	if !alike(got, want) {
		t.Errorf("without those that were refused: %+v, not %+v", got, want)
	}
}

func TestTheSameCallTwice(t *testing.T) {
	f := tree()
	for _, x := range []struct {
		c     api.Call
		again api.Errno
	}{
		{mkdir("a/q"), api.ErrThere}, {creat("q", ""), api.ErrThere}, {write("b", "xy"), api.OK}, {symlink("x", "q"), api.ErrThere}, {link("b", "q"), api.ErrThere}, {unlink("b"), api.ErrNone}, {unlink("d/f"), api.ErrNone}, {rmdir("a"), api.ErrNone}, {rename("b", "q"), api.ErrNone}, {rename("b", "b"), api.OK}, {rename("g", "d/f"), api.OK},
	} {
		once := expectRun(t, f, []api.Call{x.c}, api.OK)
		if twice := expectRun(t, f, []api.Call{x.c, x.c}, api.OK, x.again); !alike(twice, once) {
			t.Errorf("%s, twice: %+v, not %+v", short(x.c), twice, once)
		}
		if thrice := expectRun(t, f, []api.Call{x.c, x.c, x.c}, api.OK, x.again, x.again); !alike(thrice, once) {
			t.Errorf("%s, thrice: %+v, not %+v", short(x.c), thrice, once)
		}
	}
}

func TestRoomThatIsFilledAndMadeAgain(t *testing.T) {
	f, _ := table.New(4, 5)
	got := expectRun(t, f, []api.Call{
		mkdir("d"), creat("d/f", "abc"), creat("g", "xyz"), creat("g", "xy"), mkdir("e"), symlink("x", "e"), creat("e", ""),
		link("g", "h"), unlink("g"), mkdir("e"), unlink("h"), mkdir("e"), mkdir("k"),
		write("d/f", "012345"), write("d/f", "01234"), write("d/f", "0123"), rmdir("e"), creat("k", "xy"), creat("k", "x"), creat("l", ""),
		rename("k", "d/f"), creat("l", "01234"), creat("l", "0123"), rename("l", "d/l"), rmdir("d"), unlink("d/f"), unlink("d/l"), rmdir("d"), creat("m", "01234"),
	},
		0, 0, api.ErrSpace, 0, api.ErrSpace, api.ErrSpace, api.ErrSpace,
		0, 0, api.ErrSpace, 0, 0, api.ErrSpace,
		api.ErrSpace, 0, 0, 0, api.ErrSpace, 0, api.ErrSpace,
		0, api.ErrSpace, 0, 0, api.ErrFull, 0, 0, 0, 0,
	)
	if want := changed(f, 9, root("m=8"), file(8, 1, "01234")); !alike(got, want) {
		t.Errorf("%+v, not %+v", got, want)
	}
}

func TestManyCalls(t *testing.T) {
	f, _ := table.New(201, 0)
	var l []api.Call
	var want []api.Errno
	for i := range 600 {
		l = append(l, mkdir("d"+strconv.Itoa(i/2)))
		switch {
		case i%2 == 1 && i/2 < 200:
			want = append(want, api.ErrThere)
		case i/2 < 200:
			want = append(want, api.OK)
		default:
			want = append(want, api.ErrSpace)
		}
	}
	got := expectRun(t, f, l, want...)
	if len(got.Inodes) != 201 || len(got.Inodes[0].Entries) != 200 || got.Next != 202 {
		t.Errorf("there are %d inodes, and %d is next", len(got.Inodes), got.Next)
	}
}

func TestRunFromItsBase(t *testing.T) {
	f := tree()
	got, told := Run(f, "/a", []api.Call{mkdir("q"), creat("q/f", "x"), rename("q", "../d/q"), creat("/q", ""), link("q", "r"), link("../b", "r"), rmdir(".")})
	want := changed(f, 42, dir(3, 1, "e=12", "f=7", "q=40", "r=11"), file(4, 2, "abc"), dir(9, 1, "r=4"), dir(40, 3, "f=41"), file(41, 1, "x"))
	if !alike(got, want) || !slices.Equal(told, []api.Errno{0, 0, 0, api.ErrSpace, api.ErrNone, 0, api.ErrArg}) {
		t.Errorf("%+v, %v, not %+v", got, told, want)
	}
	// The base is looked for at each call: one that goes, or comes, shows at once.
	got, told = Run(f, "/a", []api.Call{mkdir("q"), rmdir("q"), rmdir("/a"), mkdir("q"), mkdir("/a"), mkdir("q"), rename("/a", "/k"), mkdir("r"), creat("/a", ""), unlink("x")})
	if !slices.Equal(told, []api.Errno{0, 0, 0, api.ErrNone, 0, 0, 0, api.ErrNone, 0, api.ErrNotDir}) {
		t.Errorf("a base that goes: %v", told)
	}
	expectSound(t, got)
}

// P15.2

func TestTreesCounts(t *testing.T) {
	l := []api.Call{mkdir("a"), creat("a/f", "xy"), unlink("a"), {Op: 9}}
	for _, inodes := range []int{math.MinInt, -1 << 30, -1, 0, 1, 2, 3, 9, 1<<30 - 1, 1 << 30, 1<<30 + 1, 1 << 40, math.MaxInt} {
		for _, bytes := range []int{math.MinInt, -1 << 30, -1, 0, 1, 2, 3, 1<<30 - 1, 1 << 30, 1<<30 + 1, 1 << 40, math.MaxInt} {
			want, wantErr := table.New(inodes, bytes)
			if right := inodes >= 1 && inodes <= 1<<30 && bytes >= 0 && bytes <= 1<<30; right != (wantErr == api.OK) {
				t.Fatalf("New of %d, %d: %d", inodes, bytes, wantErr)
			}
			if wantErr != api.OK {
				want = api.Fs{}
			}
			for _, none := range [][]api.Call{nil, {}, {{Op: 9}}, {unlink("a"), {Op: -1, A: "x"}}} {
				if got, e := Tree(inodes, bytes, none); e != wantErr || !alike(got, want) {
					t.Errorf("Tree of %d, %d and %v: %+v, %d, not %+v, %d", inodes, bytes, none, got, e, want, wantErr)
				}
			}
			if wantErr == api.OK {
				want, _ = straightRun(want, "/", l)
				expectSound(t, want)
			}
			if got, e := Tree(inodes, bytes, l); e != wantErr || !alike(got, want) {
				t.Errorf("Tree of %d, %d: %+v, %d, not %+v, %d", inodes, bytes, got, e, want, wantErr)
			}
		}
	}
	for _, x := range [][2]int{{0, 0}, {-1, 9}, {1<<30 + 1, 9}, {9, -1}, {9, 1<<30 + 1}, {0, -1}} {
		got, e := Tree(x[0], x[1], l)
		if e != api.ErrArg || !reflect.DeepEqual(got, api.Fs{}) {
			t.Errorf("Tree of %v: %+v, %d", x, got, e)
		}
	}
}

func TestTreesWrittenOut(t *testing.T) {
	for _, x := range []struct {
		inodes, bytes int
		l             []api.Call
		want          api.Fs
	}{
		{1, 0, nil, api.Fs{MaxInodes: 1, Next: 2, Inodes: []api.Inode{root()}}},
		{1, 0, []api.Call{mkdir("a"), creat("b", ""), symlink("x", "c")}, api.Fs{MaxInodes: 1, Next: 2, Inodes: []api.Inode{root()}}},
		{1 << 30, 1 << 30, nil, api.Fs{MaxInodes: 1 << 30, MaxBytes: 1 << 30, Next: 2, Inodes: []api.Inode{root()}}},
		{9, 5, []api.Call{creat("b", "012345"), {Op: 0}, unlink("q"), rmdir("/")}, api.Fs{MaxInodes: 9, MaxBytes: 5, Next: 2, Inodes: []api.Inode{root()}}},
		// Each inode that is made takes a number, also one that goes again; what is refused takes none.
		{3, 0, []api.Call{mkdir("a"), rmdir("a"), mkdir("a"), mkdir("a"), mkdir("b"), mkdir("c"), rmdir("b"), mkdir("c")}, api.Fs{MaxInodes: 3, Next: 6, Inodes: []api.Inode{root("a=3", "c=5"), dir(3, 1), dir(5, 1)}}},
		// From Root, whether the paths are absolute or not.
		{9, 9, []api.Call{mkdir("a"), mkdir("/b"), creat("a/f", "x"), creat("/b/f", "y"), symlink("../b", "./a/s"), rename("a/s/f", "../c")}, api.Fs{MaxInodes: 9, MaxBytes: 9, Next: 7, Inodes: []api.Inode{root("a=2", "b=3", "c=5"), dir(2, 1, "f=4", "s=6"), dir(3, 1), file(4, 1, "x"), file(5, 1, "y"), sym(6, "../b")}}},
	} {
		got, e := Tree(x.inodes, x.bytes, x.l)
		if e != api.OK || !alike(got, x.want) {
			t.Errorf("Tree of %d, %d and %v: %+v, %d, not %+v", x.inodes, x.bytes, x.l, got, e, x.want)
		}
		expectSound(t, got)
	}
}

// P15.3, and P15.1 and P15.2 of many scripts

// eachScript hands each list of at most so many of the calls to do.
func eachScript(l, of []api.Call, most int, do func([]api.Call)) {
	do(l)
	if len(l) == most {
		return
	}
	for _, c := range of {
		eachScript(append(slices.Clip(l), c), of, most, do)
	}
}

// someCalls answers calls that are in each other's way.
func someCalls() []api.Call {
	return []api.Call{mkdir("a"), mkdir("a/b"), creat("a/b", "x"), creat("b", "xyz"), write("b", ""), symlink("a", "b"), link("b", "a/b"), unlink("b"), unlink("a/b"), rmdir("a"), rename("b", "a"), rename("a", "b"), rename("a/b", "b"), {Op: 9, A: "b"}}
}

func TestEachShortScript(t *testing.T) {
	scripts, shapes := 0, map[string]bool{}
	eachScript(nil, someCalls(), 4, func(l []api.Call) {
		scripts++
		got, e := Tree(4, 3, l)
		if e != api.OK {
			t.Fatalf("Tree of %v: %d", l, e)
		}
		expectSound(t, got)
		f, _ := table.New(4, 3)
		want, wantTold := straightRun(f, "/", l)
		ran, told := Run(f, "/", l)
		if !table.Same(got, want) || !table.Same(ran, want) || !slices.Equal(told, wantTold) {
			t.Fatalf("%v: Tree %+v, Run %+v, %v, not %+v, %v", l, got, ran, told, want, wantTold)
		}
		shapes[fmt.Sprint(walk.Paths(got, 2), walk.Paths(got, 3), walk.Paths(got, 4))] = true
	})
	if scripts != 1+14+14*14+14*14*14+14*14*14*14 || len(shapes) < 20 {
		t.Errorf("%d scripts, %d shapes", scripts, len(shapes))
	}
}

func TestOfTwoParts(t *testing.T) {
	f, _ := table.New(3, 3)
	eachScript(nil, someCalls(), 3, func(l []api.Call) {
		want, wantTold := Run(f, "/", l)
		for cut := range len(l) + 1 {
			first, told := Run(f, "/", l[:cut])
			got, more := Run(first, "/", l[cut:])
			if !table.Same(got, want) || !slices.Equal(append(told, more...), wantTold) || len(told) < cut {
				t.Fatalf("%v, cut at %d: %+v, %v, %v, not %+v, %v", l, cut, got, told, more, want, wantTold)
			}
		}
	})
}

// scattered answers so many calls, of Ops, paths, and data that go to and fro by a rule.
func scattered(count, seed int) []api.Call {
	texts := []string{"a", "b", "c", "a/b", "b/a", "a/b/c", "c/a", "b/c", "/a", "/b/b", "../c", "a/", "b/.", "", "/", "a/..", "c\x00", long}
	var l []api.Call
	state := uint32(seed)
	next := func(n int) int {
		state = state*1664525 + 1013904223
		return int(state>>16) % n
	}
	for range count {
		c := api.Call{Op: next(10), A: texts[next(len(texts))], B: texts[next(len(texts))], Data: texts[next(len(texts))]}
		// The later texts are refused more often than not: they come less often.
		if next(3) > 0 {
			c.A, c.B = texts[next(11)], texts[next(11)]
		}
		l = append(l, c)
	}
	return l
}

func TestLongScripts(t *testing.T) {
	done, refused := map[int]int{}, map[api.Errno]int{}
	for seed := range 12 {
		f, _ := table.New(4+seed, 4*seed)
		base := []string{"/", "/a", "/b"}[seed%3]
		l := scattered(1000, seed)
		want, wantTold := straightRun(f, base, l)
		got, told := Run(f, base, l)
		if !table.Same(got, want) || !slices.Equal(told, wantTold) {
			t.Fatalf("Run of %v from %q: %+v, %v, not %+v, %v", l, base, got, told, want, wantTold)
		}
		for i, c := range l {
			g, e := Do(f, base, c)
			if e != told[i] || e != api.OK && !table.Same(g, f) {
				t.Fatalf("%s from %q in %+v: %+v, %d, not %d", short(c), base, f, g, e, told[i])
			}
			expectSound(t, g)
			f = g
			if e == api.OK {
				done[c.Op]++
			}
			refused[e]++
		}
		if !table.Same(f, got) {
			t.Fatalf("Run of %v from %q: %+v, one by one: %+v", l, base, got, f)
		}
	}
	for op := api.CallMkdir; op <= api.CallRename; op++ {
		if done[op] < 10 {
			t.Errorf("of Op %d %d calls were done", op, done[op])
		}
	}
	for e := api.OK; e <= api.ErrPerm; e++ {
		if e != api.ErrLoop && refused[e] == 0 {
			t.Errorf("%d was never answered", e)
		}
	}
}

func TestAllRefused(t *testing.T) {
	f := tree()
	var l []api.Call
	for _, x := range trials() {
		if x.e != api.OK {
			l = append(l, x.call)
		}
	}
	got, told := Run(f, "/", l)
	if !alike(got, f) || len(told) != len(l) || slices.Contains(told, api.OK) {
		t.Errorf("%+v, %v, not as it was", got, told)
	}
	got, told = Run(f, "/none", scattered(300, 1))
	for i, c := range scattered(300, 1) {
		if told[i] == api.OK && !strings.HasPrefix(c.A, "/") {
			t.Errorf("%s from a base that isn't there was done", short(c))
		}
	}
	expectSound(t, got)
}

// P15.4

// roomy answers the file system in lists of its own, each with room behind it that isn't empty.
func roomy(f api.Fs) api.Fs {
	behind := api.Entry{Name: "zzz", Ino: 77}
	f = copied(f)
	for i, x := range f.Inodes {
		f.Inodes[i].Entries = append(x.Entries, behind, behind, behind)[:len(x.Entries)]
	}
	last := api.Inode{Ino: 77, Kind: api.File, Links: 8, Data: "behind"}
	f.Inodes = append(f.Inodes, last, last, last)[:len(f.Inodes)]
	return f
}

// wholly answers the file system with the room behind its lists laid open.
func wholly(f api.Fs) api.Fs {
	f.Inodes = slices.Clone(f.Inodes[:cap(f.Inodes)])
	for i, x := range f.Inodes {
		f.Inodes[i].Entries = x.Entries[:cap(x.Entries)]
	}
	return copied(f)
}

func TestHandedInStays(t *testing.T) {
	f := roomy(tree())
	before := wholly(f)
	var l []api.Call
	for _, x := range trials() {
		l = append(l, x.call)
	}
	l = append(l, mkdir("zzz"), unlink("zzz"), rename("b", "zzz"), link("b", "d/zzz"))
	l = append(l, scattered(200, 7)...)
	l = append(l, write("behind", "behind"), mkdir("behind"))[:len(l)]
	calls := slices.Clone(l[:cap(l)])
	for _, c := range l {
		for _, base := range someBases() {
			got, _ := Do(f, base, c)
			// What is made of the new one may not show in the old one either.
			Do(got, base, c)
			Run(got, base, l[:9])
		}
	}
	for cut := range l {
		Run(f, "/", l[cut:])
		Run(f, "/", l[:cut])
	}
	Tree(20, 20, l)
	Tree(0, 0, l)
	if after := wholly(f); !reflect.DeepEqual(after, before) {
		t.Errorf("handed in: %+v, not %+v", after, before)
	}
	if after := l[:cap(l)]; !slices.Equal(after, calls) {
		t.Errorf("handed in: %v, not %v", after, calls)
	}
}

func TestWhatWasAnsweredStays(t *testing.T) {
	f := tree()
	l := []api.Call{mkdir("a/q"), mkdir("a/q"), link("b", "a/q/f")}
	want := []api.Errno{0, api.ErrThere, 0}
	first, told := Run(f, "/", l)
	before := copied(first)
	second, again := Run(f, "/", l)
	for i := range told {
		told[i] = api.ErrBusy
		l[i] = unlink("b")
	}
	if !slices.Equal(again, want) || !alike(second, before) {
		t.Errorf("the second: %+v, %v", second, again)
	}
	// Two that are made of one may not write into each other, nor into what they are made of.
	third, e := Do(first, "/", creat("a/q/A", "y"))
	fourth, e2 := Do(first, "/", unlink("a/q/f"))
	if e != api.OK || e2 != api.OK || !alike(first, before) {
		t.Errorf("%d, %d; the first: %+v, not %+v", e, e2, first, before)
	}
	if !alike(third, changed(before, 42, dir(40, 9, "A=41", "f=4"), file(41, 1, "y"))) {
		t.Errorf("the third: %+v", third)
	}
	if !alike(fourth, changed(before, 41, dir(40, 9), file(4, 1, "abc"))) {
		t.Errorf("the fourth: %+v", fourth)
	}
}

func TestRoomIsNotGoneThrough(t *testing.T) {
	f := roomy(tree())
	expectDo(t, f, "/", unlink("zzz"), f, api.ErrNone)
	l := append([]api.Call{mkdir("q")}, rmdir("q"), mkdir("r"))[:1]
	got, told := Run(f, "/", l)
	if len(told) != 1 || got.Next != 41 || !alike(got, expectDo(t, tree(), "/", mkdir("q"), got, api.OK)) {
		t.Errorf("%+v, %v", got, told)
	}
}

// shares tells whether two texts have memory in common.
func shares(a, b string) bool {
	if a == "" || b == "" {
		return false
	}
	x, y := uintptr(unsafe.Pointer(unsafe.StringData(a))), uintptr(unsafe.Pointer(unsafe.StringData(b)))
	return x < y+uintptr(len(b)) && y < x+uintptr(len(a))
}

func TestTextsAreNotKept(t *testing.T) {
	name, text := strings.Repeat("q", 9), strings.Repeat("t", 9)
	l := []api.Call{creat("/"+name, text), symlink(text, name+"s"), link(name, name+"l"), rename(name, name+"r"), mkdir(name), write(name+"l", text)}
	got, e := Tree(9, 9, l)
	if e != api.OK || len(got.Inodes) != 4 {
		t.Fatalf("%+v, %d", got, e)
	}
	for _, x := range got.Inodes {
		for _, c := range l {
			if shares(x.Data, c.Data) {
				t.Errorf("the data's memory is kept in %+v", x)
			}
			for _, e := range x.Entries {
				if shares(e.Name, c.A) || shares(e.Name, c.B) {
					t.Errorf("the path's memory is kept in the entry %q", e.Name)
				}
			}
		}
	}
}

// The rules that hold everywhere

// brokenTrees answers file systems that aren't sound.
func brokenTrees() []api.Fs {
	broken := []api.Fs{{}}
	for _, change := range []func(f *api.Fs){
		func(f *api.Fs) { f.Inodes = f.Inodes[1:] },
		func(f *api.Fs) { slices.Reverse(f.Inodes) },
		func(f *api.Fs) { slices.Reverse(f.Inodes[0].Entries) },
		func(f *api.Fs) { f.Inodes[0].Kind = api.File },
		func(f *api.Fs) { f.Inodes[0].Entries[1].Ino = 99 },
		func(f *api.Fs) { f.Inodes[0].Entries[1].Ino = -1 },
		func(f *api.Fs) { f.Inodes[2].Links = math.MinInt },
		func(f *api.Fs) { f.Inodes[1].Parent = 12 },
		func(f *api.Fs) { f.Inodes[1].Parent = 99 },
		func(f *api.Fs) { f.MaxInodes, f.MaxBytes, f.Next = math.MinInt, math.MinInt, math.MinInt },
		func(f *api.Fs) { f.MaxInodes, f.MaxBytes, f.Next = math.MaxInt, math.MaxInt, math.MaxInt },
	} {
		f := copied(tree())
		change(&f)
		broken = append(broken, f)
	}
	return broken
}

func TestWhateverIsHandedInIsAnswered(t *testing.T) {
	// Of such file systems nothing is promised but that the calls end, and leave what is handed in.
	for _, f := range brokenTrees() {
		before := copied(f)
		for _, x := range trials() {
			for _, base := range append(someBases(), "\xff", "/s") {
				Do(f, base, x.call)
			}
		}
		for seed := range 5 {
			if got, told := Run(f, "/", scattered(200, seed)); len(told) != 200 {
				t.Errorf("%+v, %d errors", got, len(told))
			}
		}
		for _, op := range noOps() {
			if got, e := Do(f, "/", api.Call{Op: op, A: "b"}); e != api.ErrArg || !alike(got, f) {
				t.Errorf("Op %d in %+v: %+v, %d", op, f, got, e)
			}
		}
		if !alike(f, before) {
			t.Errorf("handed in: %+v, not %+v", f, before)
		}
	}
}

func TestTheSameAgain(t *testing.T) {
	l := scattered(150, 3)
	want, wantTold := Run(tree(), "/d", l)
	for range 20 {
		if got, told := Run(tree(), "/d", l); !table.Same(got, want) || !slices.Equal(told, wantTold) {
			t.Fatalf("%+v, %v, not %+v, %v", got, told, want, wantTold)
		}
	}
}
