package sound

import (
	"fmt"
	"math"
	"reflect"
	"slices"
	"strings"
	"testing"

	"drayman/api"
	"drayman/table"
)

const (
	most     = 1 << 30
	farthest = 1 << 40
	longest  = 4095
)

// entriesOf answers entries of these names and numbers, a name ahead of each number.
func entriesOf(l ...any) []api.Entry {
	var all []api.Entry
	for i := 0; i < len(l); i += 2 {
		all = append(all, api.Entry{Name: l[i].(string), Ino: l[i+1].(int)})
	}
	return all
}

// rootOf answers Root with these entries.
func rootOf(l ...any) api.Inode {
	return api.Inode{Ino: 1, Kind: api.Dir, Parent: 1, Entries: entriesOf(l...)}
}

// dirOf answers a directory of that number in that other, with these entries.
func dirOf(ino, parent int, l ...any) api.Inode {
	return api.Inode{Ino: ino, Kind: api.Dir, Links: 1, Parent: parent, Entries: entriesOf(l...)}
}

// fileOf answers a file of that number, named so often.
func fileOf(ino, links int, data string) api.Inode {
	return api.Inode{Ino: ino, Kind: api.File, Links: links, Data: data}
}

// symOf answers a link of that number, named so often.
func symOf(ino, links int, data string) api.Inode {
	return api.Inode{Ino: ino, Kind: api.Sym, Links: links, Data: data}
}

// holding answers a file system of these inodes, with room for more.
func holding(l ...api.Inode) api.Fs {
	return api.Fs{MaxInodes: 20, MaxBytes: 100, Next: 20, Inodes: l}
}

// tree answers a sound file system of directories, files and links, some of which several entries name.
func tree() api.Fs {
	return holding(
		rootOf("d", 2, "f", 3, "g", 3, "s", 4),
		dirOf(2, 1, "b", 7, "e", 5, "f", 3, "s", 6),
		fileOf(3, 3, "abc"),
		symOf(4, 1, "d/e"),
		dirOf(5, 2),
		symOf(6, 2, "/"),
		dirOf(7, 2, "a", 9, "t", 6),
		fileOf(9, 1, "\x00\xff"),
	)
}

// changed answers the tree, changed so.
func changed(change func(f *api.Fs)) api.Fs {
	f := tree()
	change(&f)
	return f
}

// at answers the tree, with the inode of that number changed so.
func at(ino int, change func(x *api.Inode)) api.Fs {
	return changed(func(f *api.Fs) {
		for i := range f.Inodes {
			if f.Inodes[i].Ino == ino {
				change(&f.Inodes[i])
				return
			}
		}
	})
}

// newTable answers a table that is new.
func newTable(t *testing.T, inodes, bytes int) api.Fs {
	f, e := table.New(inodes, bytes)
	if e != api.OK {
		t.Fatalf("table.New(%d, %d): %d", inodes, bytes, e)
	}
	return f
}

// copied answers the file system in lists of its own.
func copied(f api.Fs) api.Fs {
	f.Inodes = slices.Clone(f.Inodes)
	for i := range f.Inodes {
		f.Inodes[i].Entries = slices.Clone(f.Inodes[i].Entries)
	}
	return f
}

// expect asks Check and Ok of the file system.
func expect(t *testing.T, what string, f api.Fs, want int) {
	t.Helper()
	if got := Check(f); got != want {
		t.Errorf("Check of %s: %d, not %d", what, got, want)
	}
	if got := Ok(f); got != (want == 0) {
		t.Errorf("Ok of %s: %v", what, got)
	}
}

// The rules once more, of the chapter's words alone, each asked whether the others hold or not.

func ruleOne(f api.Fs) bool {
	root := false
	for i, x := range f.Inodes {
		if x.Ino <= 0 || x.Ino >= f.Next || i > 0 && f.Inodes[i-1].Ino >= x.Ino {
			return false
		}
		root = root || x.Ino == 1 && x.Kind == api.Dir
	}
	return root && f.MaxInodes >= 1 && f.MaxInodes <= most && f.MaxBytes >= 0 && f.MaxBytes <= most && f.Next <= farthest
}

func nameMayBe(s string) bool {
	return len(s) >= 1 && len(s) <= 255 && s != "." && s != ".." && !strings.Contains(s, "/") && !strings.Contains(s, "\x00")
}

func ruleTwo(f api.Fs) bool {
	for _, x := range f.Inodes {
		if x.Kind != api.File && x.Kind != api.Sym && x.Kind != api.Dir {
			return false
		}
		if x.Kind != api.Dir && (len(x.Entries) != 0 || x.Parent != 0) {
			return false
		}
		if x.Kind == api.Sym && (len(x.Data) < 1 || len(x.Data) > longest || strings.Contains(x.Data, "\x00")) {
			return false
		}
		if x.Kind == api.Dir && x.Data != "" {
			return false
		}
		for i, e := range x.Entries {
			if !nameMayBe(e.Name) || e.Ino <= 0 || i > 0 && x.Entries[i-1].Name >= e.Name {
				return false
			}
		}
	}
	return true
}

func has(f api.Fs, ino int) bool {
	return slices.ContainsFunc(f.Inodes, func(x api.Inode) bool { return x.Ino == ino })
}

func ruleThree(f api.Fs) bool {
	for _, x := range f.Inodes {
		for _, e := range x.Entries {
			if !has(f, e.Ino) {
				return false
			}
		}
	}
	return true
}

// dirsNaming answers the directories in which an entry names that number, one for each entry.
func dirsNaming(f api.Fs, ino int) []int {
	var all []int
	for _, x := range f.Inodes {
		for _, e := range x.Entries {
			if e.Ino == ino {
				all = append(all, x.Ino)
			}
		}
	}
	return all
}

func ruleFour(f api.Fs) bool {
	for _, x := range f.Inodes {
		dirs := dirsNaming(f, x.Ino)
		if x.Ino == 1 {
			if x.Links != 0 || len(dirs) != 0 || x.Parent != 1 {
				return false
			}
			continue
		}
		if x.Links != len(dirs) || x.Links < 1 {
			return false
		}
		if x.Kind == api.Dir && (x.Links != 1 || x.Parent != dirs[0]) {
			return false
		}
	}
	return true
}

func ruleFive(f api.Fs) bool {
	led := map[int]bool{1: true}
	for range f.Inodes {
		for _, x := range f.Inodes {
			for _, e := range x.Entries {
				if led[x.Ino] {
					led[e.Ino] = true
				}
			}
		}
	}
	return !slices.ContainsFunc(f.Inodes, func(x api.Inode) bool { return !led[x.Ino] })
}

func ruleSix(f api.Fs) bool {
	used := 0
	for _, x := range f.Inodes {
		if x.Kind == api.File {
			used += len(x.Data)
		}
	}
	return len(f.Inodes) <= f.MaxInodes && used <= f.MaxBytes
}

// brokenIn answers the least number of a rule that is broken, of the chapter's words alone.
func brokenIn(f api.Fs) int {
	for i, holds := range []func(api.Fs) bool{ruleOne, ruleTwo, ruleThree, ruleFour, ruleFive, ruleSix} {
		if !holds(f) {
			return i + 1
		}
	}
	return 0
}

// P7.1: sound file systems

func TestSound(t *testing.T) {
	for what, f := range map[string]api.Fs{
		"a new table":                newTable(t, 10, 100),
		"the least table":            newTable(t, 1, 0),
		"the greatest table":         newTable(t, most, most),
		"a tree":                     tree(),
		"Root alone, empty Entries":  holding(api.Inode{Ino: 1, Kind: api.Dir, Parent: 1, Entries: []api.Entry{}}),
		"an empty file":              holding(rootOf("f", 2), fileOf(2, 1, "")),
		"a file of whatever bytes":   holding(rootOf("f", 2), fileOf(2, 1, "\x00/\xff.")),
		"a file with empty Entries":  holding(rootOf("f", 2), api.Inode{Ino: 2, Kind: api.File, Links: 1, Entries: []api.Entry{}}),
		"a link with empty Entries":  holding(rootOf("s", 2), api.Inode{Ino: 2, Kind: api.Sym, Links: 1, Data: "x", Entries: []api.Entry{}}),
		"a file of long Data":        holding(rootOf("f", 2), fileOf(2, 1, strings.Repeat("x", 100))),
		"a file named twice":         holding(rootOf("f", 2, "g", 2), fileOf(2, 2, "abc")),
		"a file named in two":        holding(rootOf("d", 2, "f", 3), dirOf(2, 1, "f", 3), fileOf(3, 2, "abc")),
		"a link named thrice":        holding(rootOf("a", 2, "b", 2, "c", 2), symOf(2, 3, "a")),
		"a link of 1 byte":           holding(rootOf("s", 2), symOf(2, 1, "x")),
		"a link of MaxPath bytes":    holding(rootOf("s", 2), symOf(2, 1, strings.Repeat("x", longest))),
		"a link that leads nowhere":  holding(rootOf("s", 2), symOf(2, 1, "nothing/there/")),
		"a link that leads to it":    holding(rootOf("s", 2), symOf(2, 1, "s")),
		"a link of whatever bytes":   holding(rootOf("s", 2), symOf(2, 1, "\x01//\xff..")),
		"a directory in one behind":  holding(rootOf("d", 5), dirOf(2, 5), dirOf(5, 1, "e", 2)),
		"directories in a row":       holding(rootOf("a", 2), dirOf(2, 1, "a", 3), dirOf(3, 2, "a", 4), dirOf(4, 3)),
		"one name in each directory": holding(rootOf("a", 2, "b", 3), dirOf(2, 1, "a", 4), dirOf(3, 1, "a", 5), fileOf(4, 1, "x"), fileOf(5, 1, "y")),
		"a name of MaxName bytes":    holding(rootOf(strings.Repeat("n", 255), 2), fileOf(2, 1, "")),
		"names of whatever bytes":    holding(rootOf("\x01", 2, " ", 3, "...", 4, ".a", 5, "B", 6, "a", 7, "\xff", 8), fileOf(2, 1, ""), fileOf(3, 1, ""), fileOf(4, 1, ""), fileOf(5, 1, ""), fileOf(6, 1, ""), fileOf(7, 1, ""), fileOf(8, 1, "")),
		"numbers with gaps":          holding(rootOf("f", 7, "g", 19), fileOf(7, 1, ""), fileOf(19, 1, "")),
		"MaxInodes 1":                changed(func(f *api.Fs) { *f = holding(rootOf()); f.MaxInodes = 1 }),
		"MaxInodes MaxCount":         changed(func(f *api.Fs) { f.MaxInodes = most }),
		"MaxBytes 0":                 changed(func(f *api.Fs) { *f = holding(rootOf("f", 2), fileOf(2, 1, "")); f.MaxBytes = 0 }),
		"MaxBytes 0, a link":         changed(func(f *api.Fs) { *f = holding(rootOf("s", 2), symOf(2, 1, "long")); f.MaxBytes = 0 }),
		"MaxBytes MaxCount":          changed(func(f *api.Fs) { f.MaxBytes = most }),
		"Next just above":            changed(func(f *api.Fs) { f.Next = 10 }),
		"Next 2^40":                  changed(func(f *api.Fs) { f.Next = farthest }),
		"the greatest number":        changed(func(f *api.Fs) { *f = holding(rootOf("f", farthest-1), fileOf(farthest-1, 1, "")); f.Next = farthest }),
		"just as many inodes":        changed(func(f *api.Fs) { f.MaxInodes = 8 }),
		"just as many bytes":         changed(func(f *api.Fs) { f.MaxBytes = 5 }),
		"just as many of both":       changed(func(f *api.Fs) { f.MaxInodes, f.MaxBytes = 8, 5 }),
	} {
		expect(t, what, f, 0)
	}
}

// P7.1: one rule broken

func TestRuleOne(t *testing.T) {
	for what, f := range map[string]api.Fs{
		"nothing":                    {},
		"no inodes":                  holding(),
		"an empty list of inodes":    holding([]api.Inode{}...),
		"MaxInodes 0":                changed(func(f *api.Fs) { f.MaxInodes = 0 }),
		"MaxInodes -1":               changed(func(f *api.Fs) { f.MaxInodes = -1 }),
		"MaxInodes MaxCount + 1":     changed(func(f *api.Fs) { f.MaxInodes = most + 1 }),
		"MaxBytes -1":                changed(func(f *api.Fs) { f.MaxBytes = -1 }),
		"MaxBytes MaxCount + 1":      changed(func(f *api.Fs) { f.MaxBytes = most + 1 }),
		"a number 0":                 changed(func(f *api.Fs) { f.Inodes = append([]api.Inode{fileOf(0, 1, "")}, f.Inodes...) }),
		"a number below 0":           changed(func(f *api.Fs) { f.Inodes = append([]api.Inode{fileOf(-1, 1, "")}, f.Inodes...) }),
		"Root's number 0":            holding(dirOf(0, 0)),
		"Root's number below 0":      holding(dirOf(-1, -1)),
		"numbers that don't rise":    holding(rootOf("f", 2, "g", 3), fileOf(3, 1, ""), fileOf(2, 1, "")),
		"one number twice":           holding(rootOf("f", 2), fileOf(2, 1, ""), fileOf(2, 1, "")),
		"Root twice":                 holding(rootOf(), rootOf()),
		"Root behind another":        holding(fileOf(2, 1, ""), rootOf("f", 2)),
		"one that is Next":           changed(func(f *api.Fs) { f.Next = 9 }),
		"one above Next":             changed(func(f *api.Fs) { f.Next = 8 }),
		"Root that is Next":          changed(func(f *api.Fs) { *f = holding(rootOf()); f.Next = 1 }),
		"Next 0":                     changed(func(f *api.Fs) { f.Next = 0 }),
		"Next above 2^40":            changed(func(f *api.Fs) { f.Next = farthest + 1 }),
		"Root not there":             holding(dirOf(2, 2)),
		"Root not there, but others": changed(func(f *api.Fs) { f.Inodes = f.Inodes[1:] }),
		"Root a file":                holding(fileOf(1, 0, "")),
		"Root a link":                holding(symOf(1, 0, "x")),
		"Root of no kind":            holding(api.Inode{Ino: 1, Parent: 1}),
	} {
		expect(t, what, f, 1)
	}
}

func TestRuleTwo(t *testing.T) {
	long := strings.Repeat("n", 256)
	for what, f := range map[string]api.Fs{
		"a kind 0":                          at(3, func(x *api.Inode) { x.Kind = 0 }),
		"a kind 4":                          at(3, func(x *api.Inode) { x.Kind = 4 }),
		"a kind -1":                         at(3, func(x *api.Inode) { x.Kind = -1 }),
		"a file with Entries":               at(3, func(x *api.Inode) { x.Entries = entriesOf("a", 9); x.Links = 3 }),
		"a file with a Parent":              at(3, func(x *api.Inode) { x.Parent = 1 }),
		"a file with a Parent below 0":      at(3, func(x *api.Inode) { x.Parent = -1 }),
		"a link with Entries":               at(4, func(x *api.Inode) { x.Entries = entriesOf("a", 9) }),
		"a link with a Parent":              at(4, func(x *api.Inode) { x.Parent = 1 }),
		"a link with an empty Data":         at(4, func(x *api.Inode) { x.Data = "" }),
		"a link of MaxPath + 1 bytes":       at(4, func(x *api.Inode) { x.Data = strings.Repeat("x", longest+1) }),
		"a link of many more bytes":         at(4, func(x *api.Inode) { x.Data = strings.Repeat("/x", longest) }),
		"a link with a zero byte":           at(4, func(x *api.Inode) { x.Data = "a\x00b" }),
		"a link with a zero byte ahead":     at(4, func(x *api.Inode) { x.Data = "\x00ab" }),
		"a link with a zero byte behind":    at(4, func(x *api.Inode) { x.Data = "ab\x00" }),
		"a link of one zero byte":           at(4, func(x *api.Inode) { x.Data = "\x00" }),
		"a directory with Data":             at(5, func(x *api.Inode) { x.Data = "x" }),
		"Root with Data":                    at(1, func(x *api.Inode) { x.Data = "x" }),
		"names that don't rise":             holding(rootOf("b", 2, "a", 3), fileOf(2, 1, ""), fileOf(3, 1, "")),
		"one name twice":                    holding(rootOf("a", 2, "a", 2), fileOf(2, 2, "")),
		"an empty name":                     holding(rootOf("", 2), fileOf(2, 1, "")),
		"a name of a dot":                   holding(rootOf(".", 2), fileOf(2, 1, "")),
		"a name of two dots":                holding(rootOf("..", 2), fileOf(2, 1, "")),
		"a name with a slash":               holding(rootOf("a/b", 2), fileOf(2, 1, "")),
		"a name with a zero byte":           holding(rootOf("a\x00", 2), fileOf(2, 1, "")),
		"a name that is too long":           holding(rootOf(long, 2), fileOf(2, 1, "")),
		"an entry of number 0":              holding(rootOf("a", 0)),
		"an entry of a number below 0":      holding(rootOf("a", -1)),
		"a wrong name in a directory":       at(7, func(x *api.Inode) { x.Entries[0].Name = ".." }),
		"a wrong order in a directory":      at(7, func(x *api.Inode) { slices.Reverse(x.Entries) }),
		"a wrong number in a directory":     at(7, func(x *api.Inode) { x.Entries[0].Ino = 0 }),
		"the last inode of no kind":         at(9, func(x *api.Inode) { x.Kind = 0 }),
		"a directory made a file":           at(7, func(x *api.Inode) { x.Kind = api.File }),
		"an empty directory made a file":    at(5, func(x *api.Inode) { x.Kind = api.File }),
		"an empty file made a link":         holding(rootOf("f", 2), symOf(2, 1, "")),
		"a file with Data made a directory": at(9, func(x *api.Inode) { x.Kind = api.Dir; x.Parent = 7 }),
	} {
		expect(t, what, f, 2)
	}
}

func TestRuleThree(t *testing.T) {
	for what, f := range map[string]api.Fs{
		"a number that isn't there, of many":      holding(rootOf("a", 2, "b", 3, "c", 4), fileOf(2, 1, ""), fileOf(4, 1, "")),
		"a number that isn't there, of Root":      holding(rootOf("a", 2)),
		"a number that isn't there, below":        at(7, func(x *api.Inode) { x.Entries[0].Ino = 8 }),
		"a number that isn't there, the last one": at(7, func(x *api.Inode) { x.Entries[1].Ino = 10 }),
		"Next":                 at(7, func(x *api.Inode) { x.Entries[0].Ino = 20 }),
		"the greatest int":     at(2, func(x *api.Inode) { x.Entries[0].Ino = math.MaxInt }),
		"one that was dropped": changed(func(f *api.Fs) { f.Inodes = f.Inodes[:7] }),
		"one of two entries of one that is dropped": changed(func(f *api.Fs) { *f = table.Drop(*f, 6) }),
	} {
		expect(t, "an entry of "+what, f, 3)
	}
}

func TestRuleFour(t *testing.T) {
	expect(t, "the chapter's example", changed(func(f *api.Fs) {
		*f = newTable(t, 10, 100)
		f.Inodes[0].Links = 1
	}), 4)
	for what, f := range map[string]api.Fs{
		"Root's Links 1":                    at(1, func(x *api.Inode) { x.Links = 1 }),
		"Root's Links -1":                   at(1, func(x *api.Inode) { x.Links = -1 }),
		"an entry that names Root":          holding(rootOf("d", 2), dirOf(2, 1, "r", 1)),
		"an entry that names Root, counted": changed(func(f *api.Fs) { *f = holding(rootOf("d", 2), dirOf(2, 1, "r", 1)); f.Inodes[0].Links = 1 }),
		"Root in itself":                    changed(func(f *api.Fs) { *f = holding(rootOf("r", 1)); f.Inodes[0].Links = 1 }),
		"Root's Parent another":             at(1, func(x *api.Inode) { x.Parent = 2 }),
		"Root's Parent 0":                   at(1, func(x *api.Inode) { x.Parent = 0 }),
		"Links one more":                    at(3, func(x *api.Inode) { x.Links++ }),
		"Links one less":                    at(3, func(x *api.Inode) { x.Links-- }),
		"Links 0":                           at(9, func(x *api.Inode) { x.Links = 0 }),
		"Links below 0":                     at(9, func(x *api.Inode) { x.Links = -1 }),
		"a link's Links one more":           at(6, func(x *api.Inode) { x.Links++ }),
		"a link's Links one less":           at(6, func(x *api.Inode) { x.Links-- }),
		"a directory's Links 2":             at(5, func(x *api.Inode) { x.Links = 2 }),
		"a directory's Links 0":             at(5, func(x *api.Inode) { x.Links = 0 }),
		"a file that no entry names":        holding(rootOf(), fileOf(2, 0, "")),
		"a file of Links 1, so":             holding(rootOf(), fileOf(2, 1, "")),
		"a link that no entry names":        holding(rootOf(), symOf(2, 0, "x")),
		"a directory that no entry names":   holding(rootOf(), api.Inode{Ino: 2, Kind: api.Dir, Parent: 1}),
		"a directory of Links 1, so":        holding(rootOf(), dirOf(2, 1)),
		"a directory that two entries name": changed(func(f *api.Fs) { *f = holding(rootOf("d", 2, "e", 2), dirOf(2, 1)); f.Inodes[1].Links = 2 }),
		"a directory of Links 1, so named":  holding(rootOf("d", 2, "e", 2), dirOf(2, 1)),
		"a directory that two others name": changed(func(f *api.Fs) {
			*f = holding(rootOf("a", 2, "b", 3), dirOf(2, 1, "c", 4), dirOf(3, 1, "c", 4), dirOf(4, 3))
			f.Inodes[3].Links = 2
		}),
		"a directory whose Parent is none": at(5, func(x *api.Inode) { x.Parent = 0 }),
		"a directory whose Parent is it":   at(5, func(x *api.Inode) { x.Parent = 5 }),
		"a directory of another Parent":    at(5, func(x *api.Inode) { x.Parent = 1 }),
		"a directory of a sister's Parent": at(5, func(x *api.Inode) { x.Parent = 7 }),
		"a directory of a file's Parent":   at(5, func(x *api.Inode) { x.Parent = 3 }),
		"a directory of a far Parent":      at(5, func(x *api.Inode) { x.Parent = math.MinInt }),
	} {
		expect(t, what, f, 4)
	}
}

func TestRuleFive(t *testing.T) {
	for what, f := range map[string]api.Fs{
		"a directory in itself":              holding(rootOf(), dirOf(2, 2, "a", 2)),
		"two directories in one another":     holding(rootOf(), dirOf(2, 3, "a", 3), dirOf(3, 2, "b", 2)),
		"three in a ring":                    holding(rootOf("f", 9), dirOf(2, 4, "a", 3), dirOf(3, 2, "b", 4), dirOf(4, 3, "c", 2), fileOf(9, 1, "")),
		"a ring with a file in it":           holding(rootOf(), dirOf(2, 3, "a", 3), dirOf(3, 2, "b", 2, "f", 4), fileOf(4, 1, "")),
		"a ring with a file that Root names": holding(rootOf("f", 4), dirOf(2, 3, "a", 3), dirOf(3, 2, "b", 2, "f", 4), fileOf(4, 2, "")),
		"a ring with a directory in it":      holding(rootOf("x", 5), dirOf(2, 3, "a", 3), dirOf(3, 2, "b", 2, "d", 4), dirOf(4, 3), dirOf(5, 1)),
		"two rings":                          holding(rootOf(), dirOf(2, 2, "a", 2), dirOf(3, 3, "a", 3)),
	} {
		expect(t, what, f, 5)
	}
}

func TestRuleSix(t *testing.T) {
	for what, f := range map[string]api.Fs{
		"one inode too many":      changed(func(f *api.Fs) { f.MaxInodes = 7 }),
		"many inodes too many":    changed(func(f *api.Fs) { f.MaxInodes = 1 }),
		"one byte too many":       changed(func(f *api.Fs) { f.MaxBytes = 4 }),
		"all bytes too many":      changed(func(f *api.Fs) { f.MaxBytes = 0 }),
		"too many of both":        changed(func(f *api.Fs) { f.MaxInodes, f.MaxBytes = 7, 4 }),
		"too many inodes alone":   changed(func(f *api.Fs) { f.MaxInodes, f.MaxBytes = 7, 5 }),
		"too many bytes alone":    changed(func(f *api.Fs) { f.MaxInodes, f.MaxBytes = 8, 4 }),
		"a byte, without room":    changed(func(f *api.Fs) { *f = holding(rootOf("f", 2), fileOf(2, 1, "x")); f.MaxBytes = 0 }),
		"a file, with Root alone": changed(func(f *api.Fs) { *f = holding(rootOf("f", 2), fileOf(2, 1, "")); f.MaxInodes = 1 }),
	} {
		expect(t, what, f, 6)
	}
	// Bytes of a file that several entries name are used once.
	expect(t, "a file named often, that just fits", changed(func(f *api.Fs) {
		*f = holding(rootOf("a", 2, "b", 2, "c", 2), fileOf(2, 3, "abc"))
		f.MaxInodes, f.MaxBytes = 2, 3
	}), 0)
}

// P7.1: several rules broken

// breakers answers, by the rule that it breaks alone, a change of the tree.
func breakers() []func(f *api.Fs) {
	return []func(f *api.Fs){
		func(f *api.Fs) { f.Next = farthest + 1 },
		func(f *api.Fs) { f.Inodes[3].Data = "" },
		func(f *api.Fs) { f.Inodes[6].Entries[0].Ino, f.Inodes[7].Links = 8, 0 },
		func(f *api.Fs) { f.Inodes[2].Links++ },
		func(f *api.Fs) { f.Inodes = append(f.Inodes, dirOf(15, 15, "a", 15)) },
		func(f *api.Fs) { f.MaxBytes = 4 },
	}
}

func TestTheLesserNumber(t *testing.T) {
	for i, one := range breakers() {
		for j, other := range breakers() {
			f := changed(one)
			if i != j {
				other(&f)
			}
			expect(t, fmt.Sprintf("rules %d and %d broken", i+1, j+1), f, min(i, j)+1)
		}
	}
	all := changed(func(*api.Fs) {})
	for i, change := range slices.Backward(breakers()) {
		change(&all)
		expect(t, fmt.Sprintf("all rules from %d on broken", i+1), all, i+1)
	}
}

// changes answers changes of the tree, each of a field or an entry.
func changes() []func(f *api.Fs) {
	ints := []int{math.MinInt, -1, 0, 1, 2, 3, 4, 7, 20, math.MaxInt}
	all := []func(f *api.Fs){func(*api.Fs) {}}
	add := func(change func(f *api.Fs)) { all = append(all, change) }
	for _, n := range append(ints, 5, 8, 9, most, most+1, farthest, farthest+1) {
		add(func(f *api.Fs) { f.MaxInodes = n })
		add(func(f *api.Fs) { f.MaxBytes = n })
		add(func(f *api.Fs) { f.Next = n })
	}
	for i := range tree().Inodes {
		change := func(field func(x *api.Inode)) {
			add(func(f *api.Fs) {
				if i < len(f.Inodes) {
					field(&f.Inodes[i])
				}
			})
		}
		for _, n := range ints {
			change(func(x *api.Inode) { x.Ino = n })
			change(func(x *api.Inode) { x.Kind = n })
			change(func(x *api.Inode) { x.Links = n })
			change(func(x *api.Inode) { x.Parent = n })
			change(func(x *api.Inode) { x.Entries = entriesOf("n", n) })
			change(func(x *api.Inode) { x.Entries = append(x.Entries, api.Entry{Name: "z", Ino: n}) })
		}
		for _, s := range []string{"", "\x00", "more bytes"} {
			change(func(x *api.Inode) { x.Data = s })
		}
		for _, name := range []string{"", "a", "..", "z"} {
			change(func(x *api.Inode) {
				if len(x.Entries) > 0 {
					x.Entries[0].Name = name
				}
			})
		}
		for place := range 4 {
			change(func(x *api.Inode) {
				if place < len(x.Entries) {
					x.Entries = slices.Delete(x.Entries, place, place+1)
				}
			})
		}
		change(func(x *api.Inode) { x.Parent, x.Entries = x.Ino, entriesOf("n", x.Ino) })
		change(func(x *api.Inode) { x.Entries = nil })
		change(func(x *api.Inode) { x.Links++ })
		change(func(x *api.Inode) { x.Links-- })
		add(func(f *api.Fs) { f.Inodes = f.Inodes[:min(i, len(f.Inodes))] })
	}
	return all
}

// TestEachTwoChanges holds Check of the tree, changed at two places, against the rules as the chapter words them.
func TestEachTwoChanges(t *testing.T) {
	all := changes()
	met := map[int]int{}
	for i, one := range all {
		for j, other := range all[:i+1] {
			f := changed(one)
			other(&f)
			want := brokenIn(f)
			met[want]++
			if got := Check(f); got != want || Ok(f) != (want == 0) {
				t.Fatalf("changes %d and %d: %d, not %d: %+v", i, j, got, want, f)
			}
		}
	}
	for number := range 7 {
		if met[number] == 0 {
			t.Errorf("no two changes come to %d", number)
		}
	}
}

// P7.1: of whatever file system

func TestNumbersFarOff(t *testing.T) {
	far := []int{math.MinInt, math.MinInt + 1, -1, 0, 1, math.MaxInt - 1, math.MaxInt}
	for _, n := range far {
		for _, m := range far {
			x := api.Inode{Ino: n, Kind: m, Links: n, Data: "x", Parent: m, Entries: entriesOf("a", n, "b", m)}
			for _, f := range []api.Fs{
				{MaxInodes: n, MaxBytes: m, Next: n},
				{MaxInodes: 9, MaxBytes: 9, Next: n, Inodes: []api.Inode{rootOf("a", m)}},
				{MaxInodes: n, MaxBytes: m, Next: 9, Inodes: []api.Inode{rootOf("a", 2), fileOf(2, 1, "abc")}},
				{MaxInodes: n, MaxBytes: m, Next: m, Inodes: []api.Inode{x, x}},
				{MaxInodes: 9, MaxBytes: 9, Next: 9, Inodes: []api.Inode{rootOf("a", 2), x}},
				{MaxInodes: 9, MaxBytes: 9, Next: math.MaxInt, Inodes: []api.Inode{rootOf("a", n), x}},
			} {
				expect(t, fmt.Sprintf("%+v", f), f, brokenIn(f))
			}
		}
	}
}

// rowOf answers directories each of which lies in the one ahead, as many as are asked for.
func rowOf(many int) api.Fs {
	f := api.Fs{MaxInodes: many, Next: many + 1}
	for ino := 1; ino <= many; ino++ {
		f.Inodes = append(f.Inodes, dirOf(ino, max(ino-1, 1), "d", ino+1))
	}
	f.Inodes[0].Links = 0
	f.Inodes[many-1].Entries = nil
	return f
}

func TestManyInOneAnother(t *testing.T) {
	const many = 1 << 18
	f := rowOf(many)
	expect(t, "many directories in one another", f, 0)
	// The last one leads back to the second, so that the way goes round; then to itself, with those ahead cut off.
	f.Inodes[many-1].Entries = entriesOf("d", 2)
	expect(t, "many directories in a ring", f, 4)
	f.Inodes[0].Entries = nil
	f.Inodes[1].Parent = many
	expect(t, "many directories in a ring, not from Root", f, 5)
}

func TestManyInOne(t *testing.T) {
	const many = 1 << 17
	f := api.Fs{MaxInodes: many + 1, MaxBytes: many, Next: many + 2, Inodes: []api.Inode{rootOf()}}
	for i := range many {
		f.Inodes[0].Entries = append(f.Inodes[0].Entries, api.Entry{Name: fmt.Sprintf("%08d", i), Ino: i + 2})
		f.Inodes = append(f.Inodes, fileOf(i+2, 1, "x"))
	}
	expect(t, "many files in one directory", f, 0)
	f.MaxBytes--
	expect(t, "many files in one directory, a byte too many", f, 6)
	f.Inodes[0].Entries[many/2].Ino++
	expect(t, "many files in one directory, one named twice", f, 4)
}

// P7.2

func TestHandedInStays(t *testing.T) {
	all := []api.Fs{{}, newTable(t, 10, 100), tree(), rowOf(5)}
	for _, change := range breakers() {
		all = append(all, changed(change))
	}
	for _, f := range all {
		before := copied(f)
		first := Check(f)
		for range 2 {
			if Check(f) != first || Ok(f) != (first == 0) {
				t.Errorf("asked again, Check answers otherwise than %d", first)
			}
		}
		if !reflect.DeepEqual(f, before) {
			t.Errorf("handed in: %+v, not %+v", f, before)
		}
	}
}

func TestRoomBehindListsStays(t *testing.T) {
	whole, before := tree(), tree()
	f := whole
	for size := range len(whole.Inodes) + 1 {
		f.Inodes = whole.Inodes[:size]
		Check(f)
		Ok(f)
	}
	inodes := slices.Clone(whole.Inodes)
	for size := range len(inodes[0].Entries) {
		inodes[0].Entries = whole.Inodes[0].Entries[:size]
		Check(holding(inodes...))
	}
	if !reflect.DeepEqual(whole, before) {
		t.Errorf("behind what was handed in: %+v", whole)
	}
}

func TestNothingIsKept(t *testing.T) {
	f := tree()
	expect(t, "the tree", f, 0)
	// What is answered hangs on what is handed in then, not on what stood there once.
	f.Inodes[2].Links++
	expect(t, "the tree, changed", f, 4)
	f.Inodes[2].Links--
	expect(t, "the tree, changed back", f, 0)
}
