package path

import (
	"slices"
	"strings"
	"testing"
	"unsafe"

	"drayman/api"
)

// texts answers all texts of at most n of the pieces.
func texts(n int, pieces ...string) []string {
	all, last := []string{""}, []string{""}
	for range n {
		var next []string
		for _, s := range last {
			for _, p := range pieces {
				next = append(next, s+p)
			}
		}
		all, last = append(all, next...), next
	}
	return all
}

// lists answers all lists of at most n of the names.
func lists(n int, names ...string) [][]string {
	all, last := [][]string{nil}, [][]string{nil}
	for range n {
		var next [][]string
		for _, l := range last {
			for _, name := range names {
				next = append(next, append(slices.Clone(l), name))
			}
		}
		all, last = append(all, next...), next
	}
	return all
}

// rows answers, of the chapter's words alone, the longest rows of bytes beside slashes.
func rows(p string) []string {
	var all []string
	for begin := 0; begin < len(p); begin++ {
		end := begin
		for end < len(p) && p[end] != 0x2f {
			end++
		}
		if end > begin {
			all = append(all, p[begin:end])
		}
		begin = end
	}
	return all
}

// mayBe tells, of the chapter's words alone, whether the name may be.
func mayBe(name string) bool {
	for i := range len(name) {
		if name[i] == 0x2f || name[i] == 0 {
			return false
		}
	}
	return len(name) >= 1 && len(name) <= 255 && name != "\x2e" && name != "\x2e\x2e"
}

// ahead answers a slash ahead of each of the names; of none one slash.
func ahead(names []string) string {
	if len(names) == 0 {
		return "\x2f"
	}
	p := ""
	for _, name := range names {
		p += "\x2f" + name
	}
	return p
}

// same tells whether two paths' parts are the same, nil and empty names being one.
func same(x, y api.Path) bool {
	return x.Abs == y.Abs && x.Slash == y.Slash && slices.Equal(x.Names, y.Names)
}

// shares tells whether two texts have memory in common.
func shares(a, b string) bool {
	if a == "" || b == "" {
		return false
	}
	x, y := uintptr(unsafe.Pointer(unsafe.StringData(a))), uintptr(unsafe.Pointer(unsafe.StringData(b)))
	return x < y+uintptr(len(b)) && y < x+uintptr(len(a))
}

// a255 and a256 are names, the longest one that may be and the shortest one that is too long.
var a255, a256 = strings.Repeat("a", 255), strings.Repeat("a", 256)

// long answers a path of so many bytes, none of whose names is too long.
func long(size int) string {
	return strings.Repeat("/"+strings.Repeat("a", 99), size/100+1)[:size]
}

// P3.1

func TestRead(t *testing.T) {
	for p, want := range map[string]api.Path{
		"":               {},
		"/":              {Abs: true},
		"//":             {Abs: true},
		"////":           {Abs: true},
		"a":              {Names: []string{"a"}},
		"a/":             {Names: []string{"a"}, Slash: true},
		"a///":           {Names: []string{"a"}, Slash: true},
		"/a":             {Abs: true, Names: []string{"a"}},
		"///a":           {Abs: true, Names: []string{"a"}},
		"/a/":            {Abs: true, Names: []string{"a"}, Slash: true},
		"//a//":          {Abs: true, Names: []string{"a"}, Slash: true},
		"/a//b/":         {Abs: true, Names: []string{"a", "b"}, Slash: true},
		"a/b":            {Names: []string{"a", "b"}},
		"a////b":         {Names: []string{"a", "b"}},
		"a/a/a":          {Names: []string{"a", "a", "a"}},
		"b/a":            {Names: []string{"b", "a"}},
		".":              {Names: []string{"."}},
		"..":             {Names: []string{".."}},
		"/./../":         {Abs: true, Names: []string{".", ".."}, Slash: true},
		"a/../b":         {Names: []string{"a", "..", "b"}},
		" /\\/\n":        {Names: []string{" ", "\\", "\n"}},
		"\x00/\xff":      {Names: []string{"\x00", "\xff"}},
		"é/\xc3/":        {Names: []string{"é", "\xc3"}, Slash: true},
		"/" + a256:       {Abs: true, Names: []string{a256}},
		long(5000):       {Abs: true, Names: slices.Repeat([]string{a255[:99]}, 50)},
		"\u2215a\uff0fb": {Names: []string{"\u2215a\uff0fb"}},
	} {
		if got := Read(p); !same(got, want) {
			t.Errorf("Read(%q): %#v, not %#v", p, got, want)
		}
	}
}

func TestReadOfAllTexts(t *testing.T) {
	for _, p := range texts(6, "/", "a", "bc", ".", "\x00", "\xc3") {
		names := rows(p)
		want := api.Path{
			Abs:   p != "" && p[0] == 0x2f,
			Names: names,
			Slash: len(names) > 0 && p[len(p)-1] == 0x2f,
		}
		if got := Read(p); !same(got, want) {
			t.Errorf("Read(%q): %#v, not %#v", p, got, want)
		}
	}
}

func TestReadOfEachByte(t *testing.T) {
	for b := range 256 {
		name := string([]byte{byte(b)})
		want := api.Path{Abs: true, Names: []string{"a" + name + "b", "c"}}
		if b == 0x2f {
			want.Names = []string{"a", "b", "c"}
		}
		if got := Read("/a" + name + "b/c"); !same(got, want) {
			t.Errorf("Read with the byte %02x: %#v", b, got)
		}
	}
}

func TestReadOfManyNames(t *testing.T) {
	const many = 1 << 16
	got := Read(strings.Repeat("ab//", many))
	if !same(got, api.Path{Names: slices.Repeat([]string{"ab"}, many), Slash: true}) {
		t.Errorf("Read of %d names: %d, %v, %v, or others", many, len(got.Names), got.Abs, got.Slash)
	}
}

func TestPut(t *testing.T) {
	for _, x := range []struct {
		parts api.Path
		want  string
	}{
		{api.Path{}, ""},
		{api.Path{Names: []string{}}, ""},
		{api.Path{Slash: true}, ""},
		{api.Path{Abs: true}, "/"},
		{api.Path{Abs: true, Slash: true}, "/"},
		{api.Path{Abs: true, Names: []string{}, Slash: true}, "/"},
		{api.Path{Names: []string{"a"}}, "a"},
		{api.Path{Names: []string{"a"}, Slash: true}, "a/"},
		{api.Path{Abs: true, Names: []string{"a"}}, "/a"},
		{api.Path{Abs: true, Names: []string{"a"}, Slash: true}, "/a/"},
		{api.Path{Names: []string{"a", "b"}}, "a/b"},
		{api.Path{Names: []string{"b", "a"}, Slash: true}, "b/a/"},
		{api.Path{Abs: true, Names: []string{"a", "b", "c"}}, "/a/b/c"},
		{api.Path{Abs: true, Names: []string{"a", "b", "c"}, Slash: true}, "/a/b/c/"},
		{api.Path{Names: []string{".", "..", "."}}, "./../."},
		{api.Path{Abs: true, Names: []string{"\x00", "\xff", a256}}, "/\x00/\xff/" + a256},
		{api.Path{Names: []string{""}}, ""},
		{api.Path{Names: []string{""}, Slash: true}, "/"},
		{api.Path{Abs: true, Names: []string{"", ""}, Slash: true}, "///"},
		{api.Path{Names: []string{"", "a", ""}}, "/a/"},
		{api.Path{Names: []string{"a/", "/b"}}, "a///b"},
	} {
		if got := Put(x.parts); got != x.want {
			t.Errorf("Put(%#v): %q, not %q", x.parts, got, x.want)
		}
	}
}

func TestBase(t *testing.T) {
	for p, want := range map[string]string{
		"":                "",
		"/":               "/",
		"//":              "/",
		"/////":           "/",
		"a":               "a",
		"a/":              "a",
		"/a":              "a",
		"//a//":           "a",
		"a/b":             "b",
		"a/b//":           "b",
		"/b/a":            "a",
		"/a//b///c/":      "c",
		".":               ".",
		"/.":              ".",
		"a/..":            "..",
		"../":             "..",
		" ":               " ",
		"a/ ":             " ",
		"a/\x00":          "\x00",
		"a/\xff\xfe/":     "\xff\xfe",
		"b/" + a256:       a256,
		long(5000) + "/b": "b",
	} {
		if got := Base(p); got != want {
			t.Errorf("Base(%q): %q, not %q", p, got, want)
		}
	}
}

func TestBaseOfAllTexts(t *testing.T) {
	for _, p := range texts(6, "/", "a", "bc", ".", "\x00", "\xc3") {
		want := ""
		if names := rows(p); len(names) > 0 {
			want = names[len(names)-1]
		} else if p != "" {
			want = "/"
		}
		if got := Base(p); got != want {
			t.Errorf("Base(%q): %q, not %q", p, got, want)
		}
	}
}

// P3.2

func TestMay(t *testing.T) {
	for name, want := range map[string]bool{
		"":                                 false,
		"a":                                true,
		"a b":                              true,
		".":                                false,
		"..":                               false,
		"...":                              true,
		"....":                             true,
		".a":                               true,
		"..a":                              true,
		"a.":                               true,
		"a..":                              true,
		". ":                               true,
		" ":                                true,
		"/":                                false,
		"//":                               false,
		"a/":                               false,
		"/a":                               false,
		"a/b":                              false,
		"./":                               false,
		"\x00":                             false,
		"a\x00":                            false,
		"\x00a":                            false,
		"a\x00b":                           false,
		".\x00":                            false,
		"\n":                               true,
		"\\":                               true,
		"-":                                true,
		"~":                                true,
		"\xff":                             true,
		"\xc3":                             true,
		"\xc3/":                            false,
		"\xe2\x88\x00":                     false,
		"é":                                true,
		"\u2215":                           true,
		"\u2024":                           true,
		a255:                               true,
		a256:                               false,
		a256 + a256:                        false,
		a255[:254]:                         true,
		a255[:254] + "/":                   false,
		"/" + a255[:254]:                   false,
		a255[:254] + "\x00":                false,
		a255[:127] + "\x00" + a255[:127]:   false,
		a255[:127] + "/" + a255[:127]:      false,
		strings.Repeat(".", 255):           true,
		strings.Repeat(".", 256):           false,
		strings.Repeat("é", 127) + "a":     true,
		strings.Repeat("é", 128):           false,
		strings.Repeat("\xff", 255):        true,
		strings.Repeat("\xff", 254) + "/":  false,
		strings.Repeat("\xff", 256):        false,
		strings.Repeat("\xff\x00/", 10000): false,
	} {
		if May(name) != want {
			t.Errorf("May(%q): %v", name, !want)
		}
	}
}

func TestMayOfEachByte(t *testing.T) {
	for b := range 256 {
		want := b != 0x2f && b != 0
		for _, around := range [][2]string{{"", ""}, {"a", ""}, {"", "a"}, {"\xe2", "\x88"}, {"aaaaaaaa", "aaaaaaaa"}} {
			name := around[0] + string([]byte{byte(b)}) + around[1]
			if May(name) != (want && name != ".") {
				t.Errorf("May(%q): %v", name, !want)
			}
		}
	}
}

func TestMayOfAllTexts(t *testing.T) {
	for _, name := range texts(6, "/", "a", ".", "\x00", "\xc3") {
		if May(name) != mayBe(name) {
			t.Errorf("May(%q): %v", name, !mayBe(name))
		}
	}
}

func TestLong(t *testing.T) {
	for _, x := range []struct {
		p    string
		want bool
	}{
		{"", false},
		{"/", false},
		{"a", false},
		{"/a/b/", false},
		{".", false},
		{"\x00", false},
		{a255, false},
		{a256, true},
		{"/" + a255, false},
		{"/" + a256, true},
		{a255 + "/", false},
		{a256 + "/", true},
		{a255 + "/" + a255, false},
		{a255 + "//" + a256, true},
		{a256 + "/a", true},
		{"a/" + a256 + "/a", true},
		{"/" + a255 + "/" + a255 + "/" + a255 + "/", false},
		{strings.Repeat("\x00", 256), true},
		{strings.Repeat("é", 127), false},
		{strings.Repeat("é", 128), true},
		{strings.Repeat("/", 256), false},
		{strings.Repeat("/", 4095), false},
		{strings.Repeat("/", 4096), true},
		{strings.Repeat("a/", 2047) + "a", false},
		{strings.Repeat("a/", 2048), true},
		{"a" + strings.Repeat("/", 4094), false},
		{"a" + strings.Repeat("/", 4095), true},
		{long(4094), false},
		{long(4095), false},
		{long(4096), true},
		{long(4097), true},
		{long(4095-256) + "/" + a255, false},
		{long(4095-257) + "/" + a256, true},
		{long(1 << 20), true},
	} {
		if Long(x.p) != x.want {
			t.Errorf("Long of %d bytes, %.20q and so on: %v", len(x.p), x.p, !x.want)
		}
	}
}

func TestLongOfEachSize(t *testing.T) {
	for size := range 600 {
		name := strings.Repeat("a", size)
		for _, p := range []string{name, "/" + name, name + "/", "b/" + name + "/c"} {
			if Long(p) != (size > 255) {
				t.Errorf("Long of a path with a name of %d bytes: %v", size, !(size > 255))
			}
		}
	}
	for size := range 5000 {
		if Long(long(size)) != (size > 4095) {
			t.Errorf("Long of a path of %d bytes: %v", size, !(size > 4095))
		}
	}
}

// P3.3

func TestJoin(t *testing.T) {
	for _, x := range []struct {
		names []string
		want  string
	}{
		{nil, "/"},
		{[]string{}, "/"},
		{[]string{"a"}, "/a"},
		{[]string{"a", "b"}, "/a/b"},
		{[]string{"b", "a", "b"}, "/b/a/b"},
		{[]string{"a b", "\n"}, "/a b/\n"},
		{[]string{a255, a256}, "/" + a255 + "/" + a256},
		{[]string{".", ".."}, "/./.."},
		{[]string{"\x00", "\xff"}, "/\x00/\xff"},
		{[]string{""}, "/"},
		{[]string{"", ""}, "//"},
		{[]string{"", "a", ""}, "//a/"},
		{[]string{"a/", "/b"}, "/a///b"},
	} {
		if got := Join(x.names...); got != x.want {
			t.Errorf("Join of %q: %q, not %q", x.names, got, x.want)
		}
	}
	if got := Join("d", "f"); got != "/d/f" {
		t.Errorf("Join of names one by one: %q", got)
	}
}

func TestPlain(t *testing.T) {
	for p, want := range map[string][]string{
		"/":                 nil,
		"/a":                {"a"},
		"/a/b":              {"a", "b"},
		"/b/a/b":            {"b", "a", "b"},
		"/a b/\n":           {"a b", "\n"},
		"/.a/a./...":        {".a", "a.", "..."},
		"/\xff/é":           {"\xff", "é"},
		"/" + a255:          {a255},
		"/a/" + a255 + "/b": {"a", a255, "b"},
		long(4095):          rows(long(4095)),
		long(4096):          rows(long(4096)),
	} {
		got, ok := Plain(p)
		if !ok || !slices.Equal(got, want) {
			t.Errorf("Plain(%q): %q, %v, not %q", p, got, ok, want)
		}
	}
}

func TestPlainOfNone(t *testing.T) {
	for _, p := range []string{
		"", "a", "a/", "a/b", " /a", ".", "..", "\x00",
		"//", "///", "//a", "//a/b", "/a//b", "/a/b//c", "///a",
		"/a/", "/a//", "/a/b/", "//a/",
		"/.", "/..", "/a/.", "/a/..", "/./a", "/../a", "/a/./b", "/a/../b",
		"/\x00", "/a\x00", "/a/\x00b", "/a\x00/b",
		"/" + a256, "/" + a256 + "/a", "/a/" + a256, "/a/" + a256 + "/b", "a" + "/" + a255, "/" + a255 + "/",
		"\\a", "\u2215a",
	} {
		if got, ok := Plain(p); len(got) != 0 || ok {
			t.Errorf("Plain(%q): %q, %v", p, got, ok)
		}
	}
}

func TestJustPlainPathsArePlain(t *testing.T) {
	for _, p := range texts(6, "/", "a", ".", "\x00", a255) {
		names := rows(p)
		want := ahead(names) == p && !slices.ContainsFunc(names, func(name string) bool { return !mayBe(name) })
		if !want {
			names = nil
		}
		if got, ok := Plain(p); ok != want || !slices.Equal(got, names) {
			t.Errorf("Plain(%.40q): %d names, %v", p, len(got), ok)
		}
	}
}

func TestPlainOfJoinedNames(t *testing.T) {
	for _, l := range lists(3, "a", "ab", ".", "..", "...", "", "/", "a/b", "\x00", " ", "\xff", a255, a256) {
		p := Join(l...)
		if p != ahead(l) {
			t.Errorf("Join of %q: %q", l, p)
		}
		if slices.ContainsFunc(l, func(name string) bool { return !mayBe(name) }) {
			continue
		}
		if got, ok := Plain(p); !ok || !slices.Equal(got, l) {
			t.Errorf("Plain(Join of %q): %q, %v", l, got, ok)
		}
	}
}

func TestUnder(t *testing.T) {
	for _, x := range []struct {
		p, q string
		want bool
	}{
		{"/", "/", true},
		{"/a", "/", true},
		{"/a/b/c", "/", true},
		{"/" + a255, "/", true},
		{"/", "/a", false},
		{"/a", "/a", true},
		{"/a", "/b", false},
		{"/a/b", "/a", true},
		{"/a/b/c", "/a", true},
		{"/a", "/a/b", false},
		{"/ab", "/a", false},
		{"/a", "/ab", false},
		{"/ab/c", "/a", false},
		{"/ab/c", "/ab", true},
		{"/a/b", "/a/b", true},
		{"/a/bc", "/a/b", false},
		{"/a/b", "/a/bc", false},
		{"/a/c", "/a/b", false},
		{"/b/a", "/a", false},
		{"/b/a/b", "/a/b", false},
		{"/a.", "/a", false},
		{"/a\xff", "/a", false},
		{"/A", "/a", false},
	} {
		if Under(x.p, x.q) != x.want {
			t.Errorf("Under(%q, %q): %v", x.p, x.q, !x.want)
		}
	}
}

func TestUnderOfAllPlainPaths(t *testing.T) {
	all := lists(4, "a", "ab", "b")
	for _, l := range all {
		for _, m := range all {
			want := len(m) <= len(l) && slices.Equal(l[:len(m)], m)
			if Under(ahead(l), ahead(m)) != want {
				t.Errorf("Under(%q, %q): %v", ahead(l), ahead(m), !want)
			}
		}
	}
}

// P3.4

func TestPartsAreReadAsTheyWere(t *testing.T) {
	for _, l := range lists(3, "a", "ab", ".", "..", "...", "\x00", " ", "\\", "\xff", "é", a255, a256) {
		for _, abs := range []bool{false, true} {
			for _, ends := range []bool{false, true} {
				x := api.Path{Abs: abs, Names: l, Slash: ends}
				want := x
				// A path without names ends in no slash, by Read's words.
				want.Slash = ends && len(l) > 0
				if got := Read(Put(x)); !same(got, want) {
					t.Errorf("Read(Put(%#v)): %#v", x, got)
				}
			}
		}
	}
}

func TestPutOfWhatWasReadIsReadAlike(t *testing.T) {
	for _, p := range texts(6, "/", "a", "bc", ".", "\x00", "\xc3") {
		x := Read(p)
		if got := Read(Put(x)); !same(got, x) {
			t.Errorf("Read(Put(Read(%q))): %#v, not %#v", p, got, x)
		}
		if strings.Contains(Put(x), "//") || len(Put(x)) > len(p) {
			t.Errorf("Put(Read(%q)): %q", p, Put(x))
		}
	}
}

// P3.5

func TestHandedInStays(t *testing.T) {
	room := []string{"a", "b", "behind", "more"}
	x := api.Path{Abs: true, Names: room[:2], Slash: true}
	put, joined := Put(x), Join(room[:2]...)
	if !slices.Equal(room, []string{"a", "b", "behind", "more"}) || !same(x, api.Path{Abs: true, Names: []string{"a", "b"}, Slash: true}) {
		t.Errorf("what was handed in is changed: %q, %#v", room, x)
	}
	room[0], room[1] = "x", "y"
	if put != "/a/b/" || joined != "/a/b" {
		t.Errorf("what was answered hangs on the names: %q, %q", put, joined)
	}
}

func TestNamesAreNew(t *testing.T) {
	for _, p := range []string{"/a", "/d/f", "/a/a/a", "/" + a255 + "/b"} {
		for _, names := range []func() []string{
			func() []string { return Read(p).Names },
			func() []string { l, _ := Plain(p); return l },
		} {
			first, second := names(), names()
			want := rows(p)
			for i, name := range first {
				if shares(name, p) || shares(name, second[i]) {
					t.Errorf("a name of %q shares memory: %q", p, name)
				}
				first[i] = "x"
			}
			if !slices.Equal(second, want) || !slices.Equal(names(), want) {
				t.Errorf("the names of %q hang on another answer's", p)
			}
			_ = append(first, "y")
			if !slices.Equal(second, want) {
				t.Errorf("the names of %q hang on the room behind another answer's", p)
			}
		}
	}
}

func TestTextsAreNew(t *testing.T) {
	for _, s := range []string{"/", "a", "/a", "a/", "/d/f", a255, "/" + a255} {
		if shares(Base(s), s) || shares(Base(s), Base(s)) {
			t.Errorf("Base(%q) shares memory", s)
		}
		if shares(Join(s), s) || shares(Join(s), Join(s)) {
			t.Errorf("Join of %q shares memory", s)
		}
		for _, x := range []api.Path{{Names: []string{s}}, {Abs: true, Names: []string{s}}, {Names: []string{s}, Slash: true}} {
			if shares(Put(x), s) || shares(Put(x), Put(x)) {
				t.Errorf("Put(%#v) shares memory", x)
			}
		}
	}
	if shares(Join(), Join()) || shares(Put(api.Path{Abs: true}), Put(api.Path{Abs: true})) {
		t.Error("two answers of one slash share memory")
	}
}

// The rules that hold everywhere

func TestWhateverIsHandedInIsAnswered(t *testing.T) {
	all := append(texts(4, "/", "a", ".", "\x00", "\xff"), a256, long(5000), strings.Repeat("/", 1<<16))
	for _, p := range all {
		Read(p)
		May(p)
		Long(p)
		Plain(p)
		Join(p)
		Base(p)
		Put(api.Path{Names: []string{p, p}})
	}
	few := texts(3, "/", "a", ".", "\x00")
	for _, p := range few {
		for _, q := range few {
			Under(p, q)
		}
	}
}
