package errs

import (
	"math"
	"slices"
	"strings"
	"testing"
	"unsafe"

	"drayman/api"
)

// chapter is what the chapter says of each error.
var chapter = map[api.Errno]string{
	api.OK:        "Success",
	api.ErrNone:   "No such file or directory",
	api.ErrThere:  "File exists",
	api.ErrNotDir: "Not a directory",
	api.ErrIsDir:  "Is a directory",
	api.ErrFull:   "Directory not empty",
	api.ErrLoop:   "Too many levels of symbolic links",
	api.ErrName:   "File name too long",
	api.ErrSpace:  "No space left on device",
	api.ErrArg:    "Invalid argument",
	api.ErrBusy:   "Device or resource busy",
	api.ErrPerm:   "Operation not permitted",
	api.ErrForm:   "Malformed text",
	api.ErrStash:  "Not in the stash",
}

// shares tells whether two texts have memory in common.
func shares(a, b string) bool {
	if a == "" || b == "" {
		return false
	}
	x, y := uintptr(unsafe.Pointer(unsafe.StringData(a))), uintptr(unsafe.Pointer(unsafe.StringData(b)))
	return x < y+uintptr(len(b)) && y < x+uintptr(len(a))
}

// P2.1

func TestMessageOfEachError(t *testing.T) {
	if len(chapter) != api.MaxErr+1 {
		t.Fatalf("%d messages, for %d errors", len(chapter), api.MaxErr+1)
	}
	for e, want := range chapter {
		if got := Message(e); got != want {
			t.Errorf("Message(%d): %q, not %q", e, got, want)
		}
		if got, ok := Find(want); got != e || !ok {
			t.Errorf("Find(%q): %d, %v, not %d", want, got, ok, e)
		}
	}
}

func TestMessageOfNoError(t *testing.T) {
	none := []api.Errno{-1, api.MaxErr + 1, -api.MaxErr, math.MinInt, math.MaxInt, math.MinInt32, 1 << 8, 1 << 16, 1 << 31, 1 << 32, 1<<32 + 1, -1 << 32}
	for d := range api.Errno(1000) {
		none = append(none, -1-d, api.MaxErr+1+d)
	}
	for _, e := range none {
		if got := Message(e); got != "Unknown error" {
			t.Errorf("Message(%d): %q", e, got)
		}
	}
}

func TestFindOfNoMessage(t *testing.T) {
	check := func(s string) {
		if e, ok := Find(s); e != api.OK || ok {
			t.Errorf("Find(%q): %d, %v", s, e, ok)
		}
	}
	for _, s := range []string{"", " ", "OK", "ErrNone", "0", "1", "14", "Unknown error", "No", "directory", "File", "Not a", "\x00", "\xff", "é"} {
		check(s)
	}
	for _, message := range chapter {
		for i := range len(message) {
			check(message[:i])
			check(message[i+1:])
			check(message[:i] + message[i+1:])
			check(message[:i] + "\x00" + message[i+1:])
		}
		for b := range 256 {
			sign := string([]byte{byte(b)})
			check(message + sign)
			check(sign + message)
		}
		check(message + message)
		check(strings.ToLower(message))
		check(strings.ToUpper(message))
		check(Line("cp", message))
		check(Line(message, "cp"))
	}
}

// P2.2

func TestLine(t *testing.T) {
	for _, x := range []struct {
		words []string
		want  string
	}{
		{nil, ""},
		{[]string{}, ""},
		{[]string{""}, ""},
		{[]string{"cp"}, "cp"},
		{[]string{"cp", "a"}, "cp: a"},
		{[]string{"cp", "a", "No such file or directory"}, "cp: a: No such file or directory"},
		{[]string{"", ""}, ": "},
		{[]string{"", "", ""}, ": : "},
		{[]string{"", "a"}, ": a"},
		{[]string{"a", ""}, "a: "},
		{[]string{"a", "", "b"}, "a: : b"},
		{[]string{": ", ":", " "}, ": : ::  "},
		{[]string{"\n", `"`, "\xff", "\x00"}, "\n: \": \xff: \x00"},
	} {
		if got := Line(x.words...); got != x.want {
			t.Errorf("Line of %q: %q, not %q", x.words, got, x.want)
		}
	}
}

func TestLineOfWordsOneByOne(t *testing.T) {
	if got := Line(); got != "" {
		t.Errorf("Line of no word: %q", got)
	}
	if got := Line("rm"); got != "rm" {
		t.Errorf("Line of one word: %q", got)
	}
	if got := Line("cp", "a", Message(api.ErrNone)); got != "cp: a: No such file or directory" {
		t.Errorf("Line of the chapter's example: %q", got)
	}
}

func TestLineOfManyWords(t *testing.T) {
	const many = 1 << 16
	got := Line(slices.Repeat([]string{"ab"}, many)...)
	if want := strings.Repeat("ab: ", many-1) + "ab"; got != want {
		t.Errorf("Line of %d words: %d bytes, not %d, or others", many, len(got), len(want))
	}
}

// The rules that hold everywhere

func TestHandedInStays(t *testing.T) {
	room := []string{"a", "b", "behind", "more"}
	line := Line(room[:2]...)
	if !slices.Equal(room, []string{"a", "b", "behind", "more"}) {
		t.Errorf("Line changed what it was handed: %q", room)
	}
	room[0], room[1] = "x", "y"
	if line != "a: b" {
		t.Errorf("what Line answered hangs on its words: %q", line)
	}
}

func TestAnswersAreNew(t *testing.T) {
	for e := api.Errno(-1); e <= api.MaxErr+1; e++ {
		if shares(Message(e), Message(e)) {
			t.Errorf("two answers of Message(%d) share memory", e)
		}
	}
	for _, s := range []string{"a", "cp", strings.Repeat("a", 100)} {
		if shares(Line(s), s) || shares(Line("", s), s) || shares(Line(s, ""), s) {
			t.Errorf("Line of %q shares memory", s)
		}
	}
}
