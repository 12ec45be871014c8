package room

import (
	"math"
	"reflect"
	"strings"
	"testing"

	"drayman/api"
	"drayman/table"
)

// far is the greatest number of which Fits promises something.
const far = 1 << 40

// file answers a file of so many bytes.
func file(size int) api.Inode {
	return api.Inode{Ino: 2, Kind: api.File, Links: 1, Data: strings.Repeat("x", size)}
}

// holding answers a file system of these inodes, which takes so many inodes and bytes.
func holding(inodes, bytes int, l ...api.Inode) api.Fs {
	return api.Fs{MaxInodes: inodes, MaxBytes: bytes, Next: 9, Inodes: l}
}

// tree answers a sound file system of Root, a directory, two links and three files of 3, 0 and 7 bytes, one of them named twice.
func tree(inodes, bytes int) api.Fs {
	return holding(inodes, bytes,
		api.Inode{Ino: 1, Kind: api.Dir, Parent: 1, Entries: []api.Entry{{Name: "d", Ino: 2}, {Name: "f", Ino: 3}, {Name: "s", Ino: 4}}},
		api.Inode{Ino: 2, Kind: api.Dir, Links: 1, Parent: 1, Entries: []api.Entry{{Name: "e", Ino: 5}, {Name: "f", Ino: 3}, {Name: "g", Ino: 6}, {Name: "t", Ino: 8}}},
		api.Inode{Ino: 3, Kind: api.File, Links: 2, Data: "abc"},
		api.Inode{Ino: 4, Kind: api.Sym, Links: 1, Data: "d/f/and/on"},
		api.Inode{Ino: 5, Kind: api.File, Links: 1},
		api.Inode{Ino: 6, Kind: api.File, Links: 1, Data: "\x00\xffseven"},
		api.Inode{Ino: 8, Kind: api.Sym, Links: 1, Data: "/"},
	)
}

// newTable answers a table that is new.
func newTable(t *testing.T, inodes, bytes int) api.Fs {
	f, e := table.New(inodes, bytes)
	if e != api.OK {
		t.Fatalf("table.New(%d, %d): %d", inodes, bytes, e)
	}
	return f
}

// P6.1

func TestUsed(t *testing.T) {
	for what, x := range map[string]struct {
		f      api.Fs
		inodes int
		bytes  int
	}{
		"nothing":                      {api.Fs{}, 0, 0},
		"no inodes, room for many":     {holding(9, 99), 0, 0},
		"an empty list":                {api.Fs{Inodes: []api.Inode{}}, 0, 0},
		"a new table":                  {newTable(t, 10, 100), 1, 0},
		"a tree":                       {tree(10, 100), 7, 10},
		"a tree without room":          {tree(0, 0), 7, 10},
		"an empty file":                {holding(1, 1, file(0)), 1, 0},
		"a file":                       {holding(1, 1, file(5)), 1, 5},
		"two files":                    {holding(9, 99, file(5), file(8)), 2, 13},
		"a file named three times":     {holding(9, 99, api.Inode{Ino: 2, Kind: api.File, Links: 3, Data: "abc"}), 1, 3},
		"a file that nothing names":    {holding(9, 99, api.Inode{Ino: 2, Kind: api.File, Data: "abc"}), 1, 3},
		"one number twice":             {holding(9, 99, file(1), file(2), file(1)), 3, 4},
		"a link":                       {holding(9, 99, api.Inode{Kind: api.Sym, Data: "abc"}), 1, 0},
		"a directory with Data":        {holding(9, 99, api.Inode{Kind: api.Dir, Data: "abc"}), 1, 0},
		"kinds that there aren't":      {holding(9, 99, api.Inode{Data: "a"}, api.Inode{Kind: -1, Data: "b"}, api.Inode{Kind: 4, Data: "c"}), 3, 0},
		"files between others":         {holding(9, 99, file(1), api.Inode{Kind: api.Sym, Data: "abc"}, file(2), api.Inode{Kind: api.Dir}, file(4)), 5, 7},
		"bytes that are no whole sign": {holding(9, 99, api.Inode{Kind: api.File, Data: "é\xff\x00"}), 1, 4},
		"an inode of nothing":          {holding(9, 99, api.Inode{}), 1, 0},
		"an inode far off":             {holding(9, 99, api.Inode{Ino: math.MaxInt, Kind: api.File, Data: "a"}), 1, 1},
		"an inode below 0":             {holding(9, 99, api.Inode{Ino: math.MinInt, Kind: api.File, Data: "a"}), 1, 1},
	} {
		if got := Inodes(x.f); got != x.inodes {
			t.Errorf("Inodes of %s: %d, not %d", what, got, x.inodes)
		}
		if got := Bytes(x.f); got != x.bytes {
			t.Errorf("Bytes of %s: %d, not %d", what, got, x.bytes)
		}
	}
}

func TestUsedOfNoMoreThanTheListHas(t *testing.T) {
	l := []api.Inode{file(1), file(2), file(4)}
	for size, want := range []int{0, 1, 3, 7} {
		f := holding(9, 99, l[:size]...)
		if Inodes(f) != size || Bytes(f) != want {
			t.Errorf("%d of three inodes: %d inodes, %d bytes, not %d", size, Inodes(f), Bytes(f), want)
		}
	}
}

func TestFitsInANewTable(t *testing.T) {
	f := newTable(t, 2, 3)
	for _, x := range []struct {
		inodes, bytes int
		want          bool
	}{
		{1, 3, true},
		{2, 0, false},
		{0, 0, true},
		{1, 0, true},
		{0, 3, true},
		{0, 4, false},
		{1, 4, false},
		{2, 3, false},
		{2, 4, false},
		{-1, 3, true},
		{1, -1, true},
		{-1, -1, true},
		{-1, 4, false},
		{2, -1, false},
		{far, 0, false},
		{0, far, false},
		{far, far, false},
		{-far, 0, true},
		{0, -far, true},
		{-far, -far, true},
		{-far, far, false},
		{far, -far, false},
	} {
		if got := Fits(f, x.inodes, x.bytes); got != x.want {
			t.Errorf("Fits of %d and %d in New(2, 3): %v", x.inodes, x.bytes, got)
		}
	}
}

// TestFitsToTheLast asks of each number around the last one that fits, with other room, and with what is used above it, too.
func TestFitsToTheLast(t *testing.T) {
	const usedInodes, usedBytes = 7, 10
	for _, roomForInodes := range []int{-far, -1, 0, 1, 6, 7, 8, 30, api.MaxCount, far} {
		for _, roomForBytes := range []int{-far, -1, 0, 1, 9, 10, 11, 30, api.MaxCount, far} {
			f := tree(roomForInodes, roomForBytes)
			inodes, bytes := roomForInodes-usedInodes, roomForBytes-usedBytes
			for moreInodes := -2; moreInodes <= 2; moreInodes++ {
				for moreBytes := -2; moreBytes <= 2; moreBytes++ {
					want := moreInodes <= 0 && moreBytes <= 0
					if Fits(f, inodes+moreInodes, bytes+moreBytes) != want {
						t.Errorf("Fits of %d and %d, where %d and %d fit just so: %v", inodes+moreInodes, bytes+moreBytes, inodes, bytes, !want)
					}
				}
			}
		}
	}
}

func TestFitsWhereTooMuchIsUsed(t *testing.T) {
	for what, x := range map[string]struct {
		f             api.Fs
		inodes, bytes int
		want          bool
	}{
		"nothing more, too many inodes":     {tree(6, 10), 0, 0, false},
		"nothing more, too many bytes":      {tree(7, 9), 0, 0, false},
		"nothing more, too many of both":    {tree(1, 1), 0, 0, false},
		"nothing more, just so many":        {tree(7, 10), 0, 0, true},
		"fewer inodes, and that is enough":  {tree(6, 10), -1, 0, true},
		"fewer inodes, and it isn't enough": {tree(5, 10), -1, 0, false},
		"fewer bytes, and that is enough":   {tree(7, 8), 0, -2, true},
		"fewer bytes, and it isn't enough":  {tree(7, 8), 0, -1, false},
		"fewer inodes, too many bytes":      {tree(6, 9), -5, 0, false},
		"fewer bytes, too many inodes":      {tree(6, 9), 0, -5, false},
		"fewer of both":                     {tree(6, 9), -1, -1, true},
		"more inodes, too many bytes":       {tree(8, 9), 1, 0, false},
		"far fewer":                         {tree(0, 0), -far, -far, true},
	} {
		if got := Fits(x.f, x.inodes, x.bytes); got != x.want {
			t.Errorf("Fits of %s: %v", what, got)
		}
	}
}

func TestFitsWithoutInodes(t *testing.T) {
	for _, x := range []struct {
		inodes, bytes int
		want          bool
	}{{0, 0, true}, {1, 0, false}, {0, 1, false}, {-1, 0, true}, {0, -1, true}, {-1, 1, false}, {1, -1, false}} {
		if got := Fits(api.Fs{}, x.inodes, x.bytes); got != x.want {
			t.Errorf("Fits of %d and %d in nothing: %v", x.inodes, x.bytes, got)
		}
		if got := Fits(holding(4, 5), x.inodes+4, x.bytes+5); got != x.want {
			t.Errorf("Fits of %d and %d, without inodes, in 4 and 5: %v", x.inodes+4, x.bytes+5, got)
		}
	}
}

// TestFitsWithWhateverLimits asks with limits beside which a sum or a difference may wrap round.
func TestFitsWithWhateverLimits(t *testing.T) {
	for _, more := range []int{-far, -1, 0, 1, far} {
		for _, x := range []struct {
			inodes, bytes int
			want          bool
		}{
			{math.MaxInt, math.MaxInt, true},
			{math.MinInt, math.MaxInt, false},
			{math.MaxInt, math.MinInt, false},
			{math.MinInt, math.MinInt, false},
			{math.MinInt + 7, math.MinInt + 10, false},
			{math.MaxInt - 7, math.MaxInt - 10, true},
		} {
			if got := Fits(tree(x.inodes, x.bytes), more, more); got != x.want {
				t.Errorf("Fits of %d in %d inodes and %d bytes: %v", more, x.inodes, x.bytes, got)
			}
		}
	}
}

// TestLinksAndDirectoriesTakeInodesAlone holds what fits against a file system in which they have no Data.
func TestLinksAndDirectoriesTakeInodesAlone(t *testing.T) {
	for _, kind := range []int{api.Dir, api.Sym} {
		x := api.Inode{Ino: 2, Kind: kind, Links: 1, Data: strings.Repeat("x", 50)}
		f := table.Set(newTable(t, 3, 3), x)
		if !Fits(f, 1, 3) || Fits(f, 2, 0) || Fits(f, 0, 4) {
			t.Errorf("Fits beside an inode of kind %d: others than 1 and 3", kind)
		}
	}
	f := table.Set(newTable(t, 3, 53), file(50))
	if !Fits(f, 1, 3) || Fits(f, 2, 0) || Fits(f, 0, 4) {
		t.Error("Fits beside a file: others than 1 and 3")
	}
}

// TestMostBytes has as many bytes as the promise speaks of; the files have their text in common, so that it takes little memory.
func TestMostBytes(t *testing.T) {
	const many = 1 << 16
	data := strings.Repeat("x", far/many)
	var l []api.Inode
	for i := range many {
		l = append(l, api.Inode{Ino: i + 1, Kind: api.File, Links: 1, Data: data})
	}
	f := holding(many, far, l...)
	if Inodes(f) != many || Bytes(f) != far {
		t.Errorf("so many bytes: %d inodes, %d bytes", Inodes(f), Bytes(f))
	}
	if !Fits(f, 0, 0) || Fits(f, 0, 1) || Fits(f, 1, 0) || Fits(f, far, far) || !Fits(f, -far, -far) {
		t.Error("Fits beside so many bytes: others than 0 and 0, or fewer")
	}
	f.MaxInodes, f.MaxBytes = many+far, far+far
	if !Fits(f, far, far) || !Fits(f, -far, far) || !Fits(f, far, -far) {
		t.Error("Fits beside so many bytes, with room for so many more: false")
	}
	f.MaxBytes--
	if Fits(f, far, far) || !Fits(f, far, far-1) {
		t.Error("Fits beside so many bytes, with room for so many less one: of that one, too")
	}
	f.MaxInodes, f.MaxBytes = 0, 0
	if Fits(f, -far, 0) || Fits(f, 0, -far) || Fits(f, -many, -far+1) || !Fits(f, -many, -far) {
		t.Error("Fits of fewer, beside so many bytes, without room: others than all of them")
	}
}

func TestManyInodes(t *testing.T) {
	f := newTable(t, 1000, 100000)
	bytes := 0
	for i := range 200 {
		f = table.Set(f, api.Inode{Ino: i + 2, Kind: api.File, Links: 1, Data: strings.Repeat("x", i)})
		bytes += i
		if Inodes(f) != i+2 || Bytes(f) != bytes {
			t.Fatalf("%d files: %d inodes, %d bytes, not %d", i+1, Inodes(f), Bytes(f), bytes)
		}
	}
	for i := range 200 {
		f = table.Drop(f, i+2)
		bytes -= i
		if Inodes(f) != 200-i || Bytes(f) != bytes {
			t.Fatalf("%d files dropped: %d inodes, %d bytes, not %d", i+1, Inodes(f), Bytes(f), bytes)
		}
	}
}

// P6.2

func TestHandedInStays(t *testing.T) {
	for what, x := range map[string]struct {
		f    api.Fs
		same api.Fs
	}{
		"nothing":     {api.Fs{}, api.Fs{}},
		"a new table": {newTable(t, 2, 3), newTable(t, 2, 3)},
		"a tree":      {tree(10, 100), tree(10, 100)},
		"no room":     {tree(0, -1), tree(0, -1)},
	} {
		for range 2 {
			Inodes(x.f)
			Bytes(x.f)
			for _, more := range []int{-far, -1, 0, 1, far} {
				Fits(x.f, more, more)
			}
			if !reflect.DeepEqual(x.f, x.same) {
				t.Errorf("%s, handed in: %+v, not %+v", what, x.f, x.same)
			}
		}
	}
}

func TestRoomBehindListsStays(t *testing.T) {
	whole := tree(10, 100)
	f := whole
	for size := range len(whole.Inodes) + 1 {
		f.Inodes = whole.Inodes[:size]
		Inodes(f)
		Bytes(f)
		Fits(f, 1, 1)
		if !reflect.DeepEqual(whole, tree(10, 100)) {
			t.Fatalf("%d inodes, handed in: behind them %+v", size, whole)
		}
	}
}

func TestNothingIsKept(t *testing.T) {
	f := tree(10, 100)
	for range 2 {
		if Inodes(f) != 7 || Bytes(f) != 10 || !Fits(f, 3, 90) || Fits(f, 4, 0) || Fits(f, 0, 91) {
			t.Fatal("a tree, asked again, answers otherwise")
		}
		Fits(api.Fs{}, 1, 1)
		Bytes(holding(1, 1, file(5)))
	}
	// What was answered hangs on what is handed in then, not on what stood there once.
	f.Inodes[2].Data = "ab"
	f.Inodes[3] = file(6)
	if Inodes(f) != 7 || Bytes(f) != 15 {
		t.Errorf("a tree, with other files: %d inodes, %d bytes", Inodes(f), Bytes(f))
	}
}
