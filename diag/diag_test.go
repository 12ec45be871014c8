package diag

import (
	"fmt"
	"math"
	"slices"
	"strings"
	"sync"
	"testing"
	"unsafe"

	"drayman/api"
)

// chapter answers what the chapter says of each phrase: its text, by its number.
func chapter() map[int]string {
	return map[int]string{
		1:  "cannot create directory A: E",
		2:  "cannot remove A: E",
		3:  "refusing to remove \".\" or \"..\" directory: skipping A",
		4:  "it is dangerous to operate recursively on A",
		5:  "failed to access A: E",
		6:  "A: hard link not allowed for directory",
		7:  "failed to create hard link B: E",
		8:  "failed to create symbolic link B: E",
		9:  "A and B are the same file",
		10: "target A is not a directory",
		11: "cannot stat A: E",
		12: "cannot overwrite non-directory B with directory A",
		13: "cannot overwrite directory B with non-directory A",
		14: "cannot move A to a subdirectory of itself, B",
		15: "cannot move A to B: E",
		16: "-r not specified; omitting directory A",
		17: "cannot create regular file B: E",
		18: "cannot create symbolic link B: E",
		19: "cannot copy a directory, A, into itself, B",
		20: "not writing through dangling symlink B",
		21: "error writing B: E",
		22: "cannot create directory B: E",
	}
}

// form is a phrase as a form of the package fmt, whose first text is A, whose second one is B, and whose third one is E; and which of them it names.
type form struct {
	text  string
	names string
}

// forms answers each phrase's form, by api's names.
func forms() map[int]form {
	return map[int]form{
		api.TellDir:      {`cannot create directory %[1]s: %[3]s`, "AE"},
		api.TellRemove:   {`cannot remove %[1]s: %[3]s`, "AE"},
		api.TellDots:     {`refusing to remove "." or ".." directory: skipping %[1]s`, "A"},
		api.TellRoot:     {`it is dangerous to operate recursively on %[1]s`, "A"},
		api.TellAccess:   {`failed to access %[1]s: %[3]s`, "AE"},
		api.TellHard:     {`%[1]s: hard link not allowed for directory`, "A"},
		api.TellLink:     {`failed to create hard link %[2]s: %[3]s`, "BE"},
		api.TellSym:      {`failed to create symbolic link %[2]s: %[3]s`, "BE"},
		api.TellSame:     {`%[1]s and %[2]s are the same file`, "AB"},
		api.TellTarget:   {`target %[1]s is not a directory`, "A"},
		api.TellStat:     {`cannot stat %[1]s: %[3]s`, "AE"},
		api.TellOverFile: {`cannot overwrite non-directory %[2]s with directory %[1]s`, "AB"},
		api.TellOverDir:  {`cannot overwrite directory %[2]s with non-directory %[1]s`, "AB"},
		api.TellInside:   {`cannot move %[1]s to a subdirectory of itself, %[2]s`, "AB"},
		api.TellMove:     {`cannot move %[1]s to %[2]s: %[3]s`, "ABE"},
		api.TellOmit:     {`-r not specified; omitting directory %[1]s`, "A"},
		api.TellFile:     {`cannot create regular file %[2]s: %[3]s`, "BE"},
		api.TellCopySym:  {`cannot create symbolic link %[2]s: %[3]s`, "BE"},
		api.TellItself:   {`cannot copy a directory, %[1]s, into itself, %[2]s`, "AB"},
		api.TellDangling: {`not writing through dangling symlink %[2]s`, "B"},
		api.TellWrite:    {`error writing %[2]s: %[3]s`, "BE"},
		api.TellCopyDir:  {`cannot create directory %[2]s: %[3]s`, "BE"},
	}
}

// names answers the five commands' names, by their numbers.
func names() map[int]string {
	return map[int]string{1: "mkdir", 2: "rm", 3: "ln", 4: "mv", 5: "cp"}
}

// messages answers the errors' messages, by their numbers, and what is told of numbers that are none.
func messages() map[api.Errno]string {
	all := map[api.Errno]string{
		0:  "Success",
		1:  "No such file or directory",
		2:  "File exists",
		3:  "Not a directory",
		4:  "Is a directory",
		5:  "Directory not empty",
		6:  "Too many levels of symbolic links",
		7:  "File name too long",
		8:  "No space left on device",
		9:  "Invalid argument",
		10: "Device or resource busy",
		11: "Operation not permitted",
		12: "Malformed text",
		13: "Not in the stash",
	}
	for _, e := range []api.Errno{-1, 14, 22, 256, 1 << 32, 1<<32 + 1, math.MinInt, math.MaxInt} {
		all[e] = "Unknown error"
	}
	return all
}

// none answers numbers that are neither a phrase's nor a command's.
func none() []int {
	return []int{
		math.MinInt, math.MinInt + 1, math.MinInt + 22, math.MinInt32, -1 << 32, -256, -23, -22, -6, -5, -2, -1, 0,
		23, 24, 44, 255, 256, 257, 256 + 22, 1 << 16, 1<<16 + 1, 1 << 31, 1 << 32, 1<<32 + 1, 1<<32 + 5, math.MaxInt - 1, math.MaxInt,
	}
}

// operands answers operands: ordinary ones, empty ones, ones of bytes that need digits, and ones that look like a phrase's parts.
func operands() []string {
	all := []string{
		"", "a", "b", "ab", "a b", " ", "  ", " a", "a ", "a  b", "/", "/a/b", "d/.", "..", "-", "--", "-r",
		`"`, `""`, `"a"`, `"A"`, `a"`, `\`, `\\`, `\"`, `\x41`, `\x0a`, `a\`, `'`, "`",
		"\x00", "\x01", "\n", "\r", "\t", "\x1f", "\x7f", "\x80", "\xff", "a\x00b", "a\nb", "\xff\xfe", "é", "e\u0301", "日本", "\u2028", "\ufeff",
		"A", "B", "E", "A:", "B:", "E:", "A,", "B,", "A B", "B A", "A B E", "E B A", "A: E", ": E", "AA", "BB", "EE", "ABE", "a A b", "xA", "Ax", "xB", "Bx", "Ex", "xE",
		"%s", "%[1]s", "%", "%d", "$1", "{0}", "~", "!", "rm: a", "cannot remove", "Success", "No such file or directory", ": ", ",", ";",
	}
	for _, text := range chapter() {
		all = append(all, text)
	}
	slices.Sort(all)
	return all
}

// quoted answers, of chapter 1's words alone, the text, quoted.
func quoted(s string) string {
	out := `"`
	for i := range len(s) {
		if b := s[i]; b < 0x20 || b > 0x7e || b == 0x22 || b == 0x5c {
			out += fmt.Sprintf(`\x%02x`, b)
		} else {
			out += s[i : i+1]
		}
	}
	return out + `"`
}

// straight answers, of the chapters' words alone, what Tell answers of a command's and a phrase's number.
func straight(kind, what int, a, b string, e api.Errno) string {
	// Each form gets all three; those that it doesn't name are none of its arguments.
	return names()[kind] + ": " + fmt.Sprintf(forms()[what].text+"%.0[1]s%.0[2]s%.0[3]s", quoted(a), quoted(b), messages()[e])
}

// expect asks Tell for a line.
func expect(t *testing.T, want string, kind, what int, a, b string, e api.Errno) {
	t.Helper()
	if got := Tell(kind, what, a, b, e); got != want {
		t.Errorf("Tell(%d, %d, %.100q, %.100q, %d): %.300q, not %.300q", kind, what, a, b, e, got, want)
	}
}

// each does something for each command and each phrase.
func each(do func(kind, what int)) {
	for kind := 1; kind <= 5; kind++ {
		for what := 1; what <= 22; what++ {
			do(kind, what)
		}
	}
}

// P18.1: Phrase

func TestPhrase(t *testing.T) {
	if len(chapter()) != api.MaxTell {
		t.Fatalf("%d phrases, for %d numbers", len(chapter()), api.MaxTell)
	}
	for what, want := range chapter() {
		if got := Phrase(what); got != want {
			t.Errorf("Phrase(%d): %q, not %q", what, got, want)
		}
	}
}

func TestPhraseByApisNames(t *testing.T) {
	if len(forms()) != api.MaxTell {
		t.Fatalf("%d forms, for %d numbers", len(forms()), api.MaxTell)
	}
	for what, f := range forms() {
		if got, want := Phrase(what), fmt.Sprintf(f.text+"%.0[1]s%.0[2]s%.0[3]s", "A", "B", "E"); got != want {
			t.Errorf("Phrase(%d): %q, not %q", what, got, want)
		}
	}
}

func TestPhraseOfNone(t *testing.T) {
	for _, what := range none() {
		if got := Phrase(what); got != "" {
			t.Errorf("Phrase(%d): %q", what, got)
		}
	}
	for what := -1000; what <= 1000; what++ {
		if got := Phrase(what); (got != "") != (what >= 1 && what <= 22) {
			t.Errorf("Phrase(%d): %q", what, got)
		}
	}
}

func TestPhrasesAreUnlike(t *testing.T) {
	seen := map[string]int{}
	for what := 1; what <= 22; what++ {
		p := Phrase(what)
		if other, ok := seen[p]; ok {
			t.Errorf("Phrase(%d) and Phrase(%d): %q", other, what, p)
		}
		seen[p] = what
	}
}

// P18.1: Tell

func TestChaptersExample(t *testing.T) {
	expect(t, `rm: cannot remove "a b": No such file or directory`, api.CmdRm, api.TellRemove, "a b", "", api.ErrNone)
}

func TestOrdinary(t *testing.T) {
	expect(t, `mkdir: cannot create directory "a": File exists`, api.CmdMkdir, api.TellDir, "a", "", api.ErrThere)
	expect(t, `rm: refusing to remove "." or ".." directory: skipping "d/."`, api.CmdRm, api.TellDots, "d/.", "", api.OK)
	expect(t, `rm: it is dangerous to operate recursively on "/"`, api.CmdRm, api.TellRoot, "/", "", api.OK)
	expect(t, `ln: failed to access "a": Too many levels of symbolic links`, api.CmdLn, api.TellAccess, "a", "b", api.ErrLoop)
	expect(t, `ln: "d": hard link not allowed for directory`, api.CmdLn, api.TellHard, "d", "e", api.OK)
	expect(t, `ln: failed to create hard link "b": File exists`, api.CmdLn, api.TellLink, "a", "b", api.ErrThere)
	expect(t, `ln: failed to create symbolic link "b": No space left on device`, api.CmdLn, api.TellSym, "a", "b", api.ErrSpace)
	expect(t, `mv: "a" and "b" are the same file`, api.CmdMv, api.TellSame, "a", "b", api.OK)
	expect(t, `mv: target "c" is not a directory`, api.CmdMv, api.TellTarget, "c", "", api.OK)
	expect(t, `mv: cannot stat "a": No such file or directory`, api.CmdMv, api.TellStat, "a", "b", api.ErrNone)
	expect(t, `mv: cannot overwrite non-directory "f" with directory "d"`, api.CmdMv, api.TellOverFile, "d", "f", api.OK)
	expect(t, `mv: cannot overwrite directory "d" with non-directory "f"`, api.CmdMv, api.TellOverDir, "f", "d", api.OK)
	expect(t, `mv: cannot move "d" to a subdirectory of itself, "d/e"`, api.CmdMv, api.TellInside, "d", "d/e", api.OK)
	expect(t, `mv: cannot move "a" to "b": Directory not empty`, api.CmdMv, api.TellMove, "a", "b", api.ErrFull)
	expect(t, `cp: -r not specified; omitting directory "d"`, api.CmdCp, api.TellOmit, "d", "e", api.OK)
	expect(t, `cp: cannot create regular file "b": Not a directory`, api.CmdCp, api.TellFile, "a", "b", api.ErrNotDir)
	expect(t, `cp: cannot create symbolic link "b": File exists`, api.CmdCp, api.TellCopySym, "a", "b", api.ErrThere)
	expect(t, `cp: cannot copy a directory, "d", into itself, "d/d"`, api.CmdCp, api.TellItself, "d", "d/d", api.OK)
	expect(t, `cp: not writing through dangling symlink "s"`, api.CmdCp, api.TellDangling, "f", "s", api.OK)
	expect(t, `cp: error writing "g": No space left on device`, api.CmdCp, api.TellWrite, "f", "g", api.ErrSpace)
	expect(t, `cp: cannot create directory "e": File name too long`, api.CmdCp, api.TellCopyDir, "d", "e", api.ErrName)
}

func TestEachCommandsEachPhrase(t *testing.T) {
	each(func(kind, what int) {
		for e := range messages() {
			expect(t, straight(kind, what, "a", "b", e), kind, what, "a", "b", e)
			expect(t, straight(kind, what, "first one", `"2"`, e), kind, what, "first one", `"2"`, e)
		}
	})
}

func TestNumbersThatAreNone(t *testing.T) {
	for _, number := range none() {
		each(func(kind, what int) {
			expect(t, "", kind, number, "a", "b", api.ErrNone)
			expect(t, "", number, what, "a", "b", api.ErrNone)
		})
		for _, other := range none() {
			expect(t, "", number, other, "a", "b", api.ErrNone)
		}
	}
	for kind := -50; kind <= 50; kind++ {
		for what := -50; what <= 50; what++ {
			right := kind >= 1 && kind <= 5 && what >= 1 && what <= 22
			if got := Tell(kind, what, "", "", api.OK); (got != "") != right {
				t.Errorf("Tell(%d, %d): %q", kind, what, got)
			}
		}
	}
}

// P18.1: operands and errors

func TestOperands(t *testing.T) {
	each(func(kind, what int) {
		e := api.Errno((kind + what) % 15)
		for _, s := range operands() {
			for _, other := range []string{"", "other", s, "A", "B", "E"} {
				expect(t, straight(kind, what, s, other, e), kind, what, s, other, e)
				expect(t, straight(kind, what, other, s, e), kind, what, other, s, e)
			}
		}
	})
}

func TestAllPairsOfOperands(t *testing.T) {
	for what := 1; what <= 22; what++ {
		for _, a := range operands() {
			for _, b := range operands() {
				expect(t, straight(api.CmdCp, what, a, b, api.ErrArg), api.CmdCp, what, a, b, api.ErrArg)
			}
		}
	}
}

func TestEachByte(t *testing.T) {
	for what := 1; what <= 22; what++ {
		for i := range 256 {
			one := string([]byte{byte(i)})
			two := "a" + one + "b"
			expect(t, straight(api.CmdMv, what, one, two, api.ErrBusy), api.CmdMv, what, one, two, api.ErrBusy)
			expect(t, straight(api.CmdMv, what, two, one, api.ErrBusy), api.CmdMv, what, two, one, api.ErrBusy)
		}
	}
}

func TestOperandsThatLookLikePhrases(t *testing.T) {
	expect(t, `mv: cannot move "B" to "A": Directory not empty`, api.CmdMv, api.TellMove, "B", "A", api.ErrFull)
	expect(t, `mv: cannot move "E" to "E": Directory not empty`, api.CmdMv, api.TellMove, "E", "E", api.ErrFull)
	expect(t, `mv: cannot move "A" to "B": Directory not empty`, api.CmdMv, api.TellMove, "A", "B", api.ErrFull)
	expect(t, `mv: cannot move "B: E" to "A B E": Directory not empty`, api.CmdMv, api.TellMove, "B: E", "A B E", api.ErrFull)
	expect(t, `ln: "x B E" and "y A E" are the same file`, api.CmdLn, api.TellSame, "x B E", "y A E", api.ErrFull)
	expect(t, `cp: cannot copy a directory, "B,", into itself, "A,"`, api.CmdCp, api.TellItself, "B,", "A,", api.ErrFull)
	expect(t, `cp: cannot overwrite directory "A" with non-directory "cannot overwrite directory B with non-directory A"`, api.CmdCp, api.TellOverDir, "cannot overwrite directory B with non-directory A", "A", api.OK)
	expect(t, `rm: refusing to remove "." or ".." directory: skipping "A"`, api.CmdRm, api.TellDots, "A", "B", api.ErrNone)
	expect(t, `rm: cannot remove "\x22A\x22": File exists`, api.CmdRm, api.TellRemove, `"A"`, "B", api.ErrThere)
	expect(t, `rm: cannot remove "\x5cx41": File exists`, api.CmdRm, api.TellRemove, `\x41`, "B", api.ErrThere)
}

func TestErrors(t *testing.T) {
	for e, message := range messages() {
		expect(t, `rm: cannot remove "": `+message, api.CmdRm, api.TellRemove, "", "", e)
		expect(t, `mv: cannot move "a" to "b": `+message, api.CmdMv, api.TellMove, "a", "b", e)
		expect(t, `cp: error writing "E": `+message, api.CmdCp, api.TellWrite, "A", "E", e)
	}
	for e := api.Errno(-300); e <= 300; e++ {
		message, ok := messages()[e]
		if !ok {
			message = "Unknown error"
		}
		expect(t, `mkdir: cannot create directory "a": `+message, api.CmdMkdir, api.TellDir, "a", "b", e)
	}
}

func TestWhatIsNotNamedCountsForNothing(t *testing.T) {
	each(func(kind, what int) {
		named := forms()[what].names
		want := Tell(kind, what, "a", "b", api.ErrNone)
		for _, s := range operands() {
			if !strings.Contains(named, "A") {
				expect(t, want, kind, what, s, "b", api.ErrNone)
			}
			if !strings.Contains(named, "B") {
				expect(t, want, kind, what, "a", s, api.ErrNone)
			}
		}
		for e := range messages() {
			if !strings.Contains(named, "E") {
				expect(t, want, kind, what, "a", "b", e)
			}
		}
	})
}

func TestUnlikeIsToldByUnlikeLines(t *testing.T) {
	unlike := slices.Compact(operands())
	each(func(kind, what int) {
		named := forms()[what].names
		if strings.Contains(named, "A") {
			lines := map[string]bool{}
			for _, s := range unlike {
				lines[Tell(kind, what, s, "b", api.ErrNone)] = true
			}
			if len(lines) != len(unlike) {
				t.Errorf("Tell(%d, %d) of %d first operands: %d lines", kind, what, len(unlike), len(lines))
			}
		}
		if strings.Contains(named, "B") {
			lines := map[string]bool{}
			for _, s := range unlike {
				lines[Tell(kind, what, "a", s, api.ErrNone)] = true
			}
			if len(lines) != len(unlike) {
				t.Errorf("Tell(%d, %d) of %d second operands: %d lines", kind, what, len(unlike), len(lines))
			}
		}
		if strings.Contains(named, "E") {
			lines := map[string]bool{}
			for e := api.OK; e <= api.MaxErr+1; e++ {
				lines[Tell(kind, what, "a", "b", e)] = true
			}
			if len(lines) != api.MaxErr+2 {
				t.Errorf("Tell(%d, %d) of %d errors: %d lines", kind, what, api.MaxErr+2, len(lines))
			}
		}
	})
}

func TestUnlikePairsAreToldByUnlikeLines(t *testing.T) {
	unlike := slices.Compact(operands())
	for what := 1; what <= 22; what++ {
		if named := forms()[what].names; !strings.Contains(named, "A") || !strings.Contains(named, "B") {
			continue
		}
		lines := map[string]bool{}
		for _, a := range unlike {
			for _, b := range unlike {
				lines[Tell(api.CmdMv, what, a, b, api.ErrNone)] = true
			}
		}
		if len(lines) != len(unlike)*len(unlike) {
			t.Errorf("Tell of phrase %d of %d pairs: %d lines", what, len(unlike)*len(unlike), len(lines))
		}
	}
}

func TestLongOperands(t *testing.T) {
	const many = 1 << 20
	for _, s := range []string{"a", "A ", "\xff", `"`, "B: E"} {
		long := strings.Repeat(s, many)
		inside := strings.Repeat(strings.Trim(quoted(s), `"`), many)
		expect(t, `mv: cannot move "`+inside+`" to "b": Invalid argument`, api.CmdMv, api.TellMove, long, "b", api.ErrArg)
		expect(t, `mv: "a" and "`+inside+`" are the same file`, api.CmdMv, api.TellSame, "a", long, api.ErrArg)
	}
}

// P18.2

// clean tells whether the text has signs and blanks alone.
func clean(s string) bool {
	for i := range len(s) {
		if s[i] < 0x20 || s[i] > 0x7e {
			return false
		}
	}
	return true
}

func TestLinesAreSignsAndBlanks(t *testing.T) {
	var all []byte
	for i := range 256 {
		all = append(all, byte(i))
	}
	rows := append(operands(), string(all), strings.Repeat(string(all), 3))
	for i := range 256 {
		rows = append(rows, string([]byte{byte(i)}), string([]byte{'a', byte(i), 'A'}))
	}
	each(func(kind, what int) {
		for i, s := range rows {
			other := rows[len(rows)-1-i]
			for _, e := range []api.Errno{api.OK, api.ErrNone, api.MaxErr, -1, math.MaxInt} {
				if line := Tell(kind, what, s, other, e); line == "" || !clean(line) {
					t.Fatalf("Tell(%d, %d, %q, %q, %d): %q", kind, what, s, other, e, line)
				}
			}
		}
		for e := range messages() {
			if line := Tell(kind, what, string(all), string(all), e); line == "" || !clean(line) {
				t.Fatalf("Tell(%d, %d) with the error %d: %q", kind, what, e, line)
			}
		}
	})
	for what := -30; what <= 30; what++ {
		if p := Phrase(what); !clean(p) {
			t.Errorf("Phrase(%d): %q", what, p)
		}
	}
}

// The rules that hold everywhere

// shares tells whether two texts have memory in common.
func shares(a, b string) bool {
	if a == "" || b == "" {
		return false
	}
	x, y := uintptr(unsafe.Pointer(unsafe.StringData(a))), uintptr(unsafe.Pointer(unsafe.StringData(b)))
	return x < y+uintptr(len(b)) && y < x+uintptr(len(a))
}

func TestAnswersAreNew(t *testing.T) {
	for what := 1; what <= 22; what++ {
		if shares(Phrase(what), Phrase(what)) {
			t.Errorf("two answers of Phrase(%d) share memory", what)
		}
	}
	each(func(kind, what int) {
		a, b := strings.Clone("first"), strings.Clone("second")
		line := Tell(kind, what, a, b, api.ErrNone)
		for _, other := range []string{a, b, Phrase(what), Tell(kind, what, a, b, api.ErrNone)} {
			if shares(line, other) {
				t.Errorf("Tell(%d, %d) shares memory with %q", kind, what, other)
			}
		}
	})
}

func TestHandedInStays(t *testing.T) {
	memory := []byte("A b\x00B e\xff")
	a, b := unsafe.String(&memory[0], 4), unsafe.String(&memory[4], 4)
	each(func(kind, what int) {
		want := straight(kind, what, "A b\x00", "B e\xff", api.ErrNone)
		line := Tell(kind, what, a, b, api.ErrNone)
		if string(memory) != "A b\x00B e\xff" {
			t.Fatalf("Tell(%d, %d) changed what it was handed: %q", kind, what, memory)
		}
		for i := range memory {
			memory[i] = 'z'
		}
		if line != want {
			t.Errorf("Tell(%d, %d): what was answered hangs on its operands: %q, not %q", kind, what, line, want)
		}
		copy(memory, "A b\x00B e\xff")
	})
}

func TestTheSameAgain(t *testing.T) {
	each(func(kind, what int) {
		for range 20 {
			expect(t, straight(kind, what, "a", "b", api.ErrFull), kind, what, "a", "b", api.ErrFull)
			Tell(kind%5+1, what%22+1, "c", "d", api.ErrArg)
		}
	})
}

func TestAllAtOnce(t *testing.T) {
	var all sync.WaitGroup
	for range 8 {
		all.Go(func() {
			each(func(kind, what int) {
				expect(t, straight(kind, what, "a", "A", api.ErrFull), kind, what, "a", "A", api.ErrFull)
			})
		})
	}
	all.Wait()
}
