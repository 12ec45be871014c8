package quote

import (
	"fmt"
	"slices"
	"strings"
	"testing"
	"unsafe"
)

// texts answers all texts of at most n of the pieces.
func texts(n int, pieces ...string) []string {
	all, last := []string{""}, []string{""}
	for range n {
		var next []string
		for _, s := range last {
			for _, p := range pieces {
				next = append(next, s+p)
			}
		}
		all, last = append(all, next...), next
	}
	return all
}

// lineOf tells, of the chapter's words alone, whether s is words with a blank between two, one word at least.
func lineOf(s string, isWord func(string) bool) bool {
	if isWord(s) {
		return true
	}
	for i := range len(s) {
		if s[i] == ' ' && isWord(s[:i]) && lineOf(s[i+1:], isWord) {
			return true
		}
	}
	return false
}

// shares tells whether two texts have memory in common.
func shares(a, b string) bool {
	if a == "" || b == "" {
		return false
	}
	x, y := uintptr(unsafe.Pointer(unsafe.StringData(a))), uintptr(unsafe.Pointer(unsafe.StringData(b)))
	return x < y+uintptr(len(b)) && y < x+uintptr(len(a))
}

// P1.1

func TestQuoteOrdinary(t *testing.T) {
	for s, want := range map[string]string{
		"":             `""`,
		"a":            `"a"`,
		"a b":          `"a b"`,
		"/d/f":         `"/d/f"`,
		"  ":           `"  "`,
		"\n":           `"\x0a"`,
		`"`:            `"\x22"`,
		`\`:            `"\x5c"`,
		`\x0a`:         `"\x5cx0a"`,
		"é":            `"\xc3\xa9"`,
		"a\x00\xffz":   `"a\x00\xffz"`,
		"\xab\xcd\xef": `"\xab\xcd\xef"`,
	} {
		if got := Quote(s); got != want {
			t.Errorf("Quote(%q): %q, not %q", s, got, want)
		}
		if got, ok := Unquote(want); got != s || !ok {
			t.Errorf("Unquote(%q): %q, %v, not %q", want, got, ok, s)
		}
	}
}

func TestQuoteOfEachByte(t *testing.T) {
	for b := range 256 {
		s := string([]byte{byte(b)})
		want := `"` + s + `"`
		if b < 0x20 || b > 0x7e || b == 0x22 || b == 0x5c {
			want = fmt.Sprintf(`"\x%02x"`, b)
		}
		if got := Quote(s); got != want {
			t.Errorf("Quote of the byte %02x: %q, not %q", b, got, want)
		}
		if got, ok := Unquote(want); got != s || !ok {
			t.Errorf("Unquote(%q): %q, %v", want, got, ok)
		}
	}
}

func TestUnquoteOfNone(t *testing.T) {
	for _, s := range []string{
		"", "a", " ", `"`, `"""`, `"a`, `a"`, `"a"b`, `b"a"`, ` "a"`, `"a" `, `"a""b"`, `"a" "b"`, "'a'",
		`"\"`, `"\\"`, `"\x"`, `"\x0"`, `"\x0`, `"\x0a`, `"\n"`, `"\y0a"`, `"\X0a"`, `"x0a\"`,
		`"\x0A"`, `"\xFF"`, `"\xfF"`, `"\x0g"`, `"\xg0"`, `"\x 1"`, `"\x-1"`, `"\x1 "`,
		`"\x41"`, `"\x20"`, `"\x7e"`, `"\x21"`, `"\x23"`, `"\x5b"`, `"\x5d"`,
		"\"\n\"", "\"\x00\"", "\"\x1f\"", "\"\x7f\"", "\"\x80\"", "\"é\"", "\"\xff\"",
	} {
		if got, ok := Unquote(s); got != "" || ok {
			t.Errorf("Unquote(%q): %q, %v", s, got, ok)
		}
	}
}

func TestPlain(t *testing.T) {
	for b := range 256 {
		want := b >= 0x21 && b <= 0x7e && b != 0x22
		for _, around := range [][2]string{{"", ""}, {"a", ""}, {"", "a"}, {"a", "a"}} {
			s := around[0] + string([]byte{byte(b)}) + around[1]
			if Plain(s) != want {
				t.Errorf("Plain(%q): %v", s, !want)
			}
		}
	}
	for s, want := range map[string]bool{"": false, "mkdir": true, `\x0A`: true, "'": true, `""`: false, "a b": false, "é": false} {
		if Plain(s) != want {
			t.Errorf("Plain(%q): %v", s, !want)
		}
	}
}

// P1.2

func TestSplitLine(t *testing.T) {
	for s, want := range map[string][]string{
		"":                        nil,
		"a":                       {"a"},
		"a b":                     {"a", "b"},
		"plan 2":                  {"plan", "2"},
		`mkdir "/a b"`:            {"mkdir", `"/a b"`},
		`""`:                      {`""`},
		`"" ""`:                   {`""`, `""`},
		`" "`:                     {`" "`},
		`"  " a " b"`:             {`"  "`, "a", `" b"`},
		`\ \x \x0A`:               {`\`, `\x`, `\x0A`},
		`write 1 "/\x22" "/\x0a"`: {"write", "1", `"/\x22"`, `"/\x0a"`},
	} {
		got, ok := Split(s)
		if !ok || !slices.Equal(got, want) {
			t.Errorf("Split(%q): %q, %v, not %q", s, got, ok, want)
		}
	}
}

func TestSplitOfNone(t *testing.T) {
	for _, s := range []string{
		" ", "  ", " a", "a ", "a  b", "  a", "a  ", "a b ", ` "a"`, `"a" `, `"a"  "b"`, `"a"  b`,
		`"`, `"a`, `a"`, `a "`, `" a`, `"a" "b`, `a"b`, `a"b"`, `"a"b`, `"a""b"`, `"a"b c"d"`, `a" "b`,
		`"\x41"`, `a "\x0A"`, `"\"`, `"\n" b`, `b "\ "`,
		"a\tb", "a\n", "\n", "a\x00", "a \x7f", "é", "\"é\"", "a \"\n\"",
	} {
		if got, ok := Split(s); len(got) != 0 || ok {
			t.Errorf("Split(%q): %q, %v", s, got, ok)
		}
	}
}

func TestJoin(t *testing.T) {
	for _, x := range []struct {
		l    []string
		want string
	}{
		{nil, ""},
		{[]string{}, ""},
		{[]string{""}, ""},
		{[]string{"a"}, "a"},
		{[]string{"a", "b", "c"}, "a b c"},
		{[]string{"", ""}, " "},
		{[]string{"a ", " b"}, "a   b"},
		{[]string{"\n", `"`, "\xff"}, "\n \" \xff"},
	} {
		if got := Join(x.l); got != x.want {
			t.Errorf("Join(%q): %q, not %q", x.l, got, x.want)
		}
	}
}

// P1.3

func TestQuotedIsReadAsItWas(t *testing.T) {
	check := func(s string) {
		if got, ok := Unquote(Quote(s)); got != s || !ok {
			t.Errorf("Unquote(Quote(%q)): %q, %v", s, got, ok)
		}
	}
	for a := range 256 {
		for b := range 256 {
			check(string([]byte{byte(a), byte(b)}))
		}
	}
	check(strings.Repeat("\x00\"\\ é", 1<<14))
}

func TestQuotedIsReadByNoOtherForm(t *testing.T) {
	check := func(s string) {
		got, ok := Unquote(s)
		if ok && Quote(got) != s || !ok && got != "" {
			t.Errorf("Unquote(%q): %q, %v, which is quoted %q", s, got, ok, Quote(got))
		}
	}
	for _, s := range texts(5, `"`, `\`, "x", "0", "2", "a", "A", " ", "\n") {
		check(s)
		check(`"` + s + `"`)
	}
	for a := range 256 {
		for b := range 256 {
			check(`"\x` + string([]byte{byte(a), byte(b)}) + `"`)
		}
	}
}

func TestJoinedIsSplitAsItWas(t *testing.T) {
	words := []string{"a", "-", `\`, `""`, `" "`, `"a b"`, `"\x22"`, `"\x5c \x0a"`, "~!"}
	check := func(l ...string) {
		if got, ok := Split(Join(l)); !ok || !slices.Equal(got, l) {
			t.Errorf("Split(Join(%q)): %q, %v", l, got, ok)
		}
	}
	check()
	for _, a := range words {
		check(a)
		for _, b := range words {
			check(a, b)
			for _, c := range words {
				check(a, b, c)
			}
		}
	}
	check(slices.Repeat(words, 1<<12)...)
}

func TestJustLinesAreSplit(t *testing.T) {
	isWord := func(s string) bool {
		_, quoted := Unquote(s)
		return quoted || Plain(s)
	}
	for _, s := range texts(6, `"`, " ", "a", `\`, `\x0a`, `\x22`, "\n") {
		got, ok := Split(s)
		if ok != (s == "" || lineOf(s, isWord)) {
			t.Errorf("Split(%q): %q, %v", s, got, ok)
		}
		if ok && Join(got) != s {
			t.Errorf("Split(%q): %q", s, got)
		}
		for _, w := range got {
			if !isWord(w) {
				t.Errorf("Split(%q): %q is no word", s, w)
			}
		}
	}
}

// P1.4

func TestHandedInStays(t *testing.T) {
	room := []string{"a", `"b c"`, "behind", "more"}
	l := room[:2]
	Join(l)
	if !slices.Equal(room, []string{"a", `"b c"`, "behind", "more"}) {
		t.Errorf("Join changed what it was handed: %q", room)
	}
	line := Join(l)
	room[0], room[1] = "x", "y"
	if line != `a "b c"` {
		t.Errorf("what Join answered hangs on its list: %q", line)
	}
}

func TestAnswersAreNew(t *testing.T) {
	for _, s := range []string{"a", "/d/f", `"a b"`, `""`, strings.Repeat("a", 100)} {
		if shares(Quote(s), s) {
			t.Errorf("Quote(%q) shares memory", s)
		}
		if got, _ := Unquote(s); shares(got, s) {
			t.Errorf("Unquote(%q) shares memory", s)
		}
		if shares(Join([]string{s}), s) || shares(Join([]string{"", s}), s) {
			t.Errorf("Join of %q shares memory", s)
		}
	}
	for i := range 256 {
		one := string([]byte{byte(i)})
		a, _ := Unquote(Quote(one))
		b, _ := Unquote(Quote(one))
		if shares(a, b) {
			t.Errorf("Unquote(%q) answers one memory twice", Quote(one))
		}
		if shares(Join([]string{one}), Join([]string{one})) {
			t.Errorf("Join of %q answers one memory twice", one)
		}
	}
	const line = `mkdir "/a b" c`
	first, _ := Split(line)
	second, _ := Split(line)
	for i, w := range first {
		if shares(w, line) || shares(w, second[i]) {
			t.Errorf("Split(%q): %q shares memory", line, w)
		}
	}
	first[0], first[1] = "x", "y"
	third, _ := Split(line)
	want := []string{"mkdir", `"/a b"`, "c"}
	if !slices.Equal(second, want) || !slices.Equal(third, want) {
		t.Errorf("Split(%q): %q and %q, with another answer changed", line, second, third)
	}
}
