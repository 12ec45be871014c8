package lang

import (
	"fmt"
	"math"
	"regexp"
	"slices"
	"strconv"
	"strings"
	"sync"
	"testing"
	"time"
	"unsafe"

	"drayman/api"
)

// chapter is the line of each kind's operations, as the chapter words it.
var chapter = map[int]string{
	1:  "mkdir A",
	2:  "copy A B",
	3:  "write Slot A B",
	4:  "sym Data A",
	5:  "link A B",
	6:  "move A B",
	7:  "stash Slot A",
	8:  "erase A",
	9:  "return Slot A",
	10: "restore Slot A",
}

// has tells whether the lines of the kind have that word.
func has(kind int, word string) bool {
	return strings.Contains(chapter[kind]+" ", " "+word+" ")
}

// quoted answers, of chapter 1's words alone, the text, quoted.
func quoted(s string) string {
	var out strings.Builder
	for i := range len(s) {
		if b := s[i]; b < 0x20 || b > 0x7e || b == 0x22 || b == 0x5c {
			fmt.Fprintf(&out, `\x%02x`, b)
		} else {
			out.WriteByte(b)
		}
	}
	return `"` + out.String() + `"`
}

// plain tells, of chapter 3's words alone, whether the path is plain, and not /.
func plain(p string) bool {
	if p == "" || p[0] != '/' {
		return false
	}
	for _, name := range strings.Split(p[1:], "/") {
		if name == "" || name == "." || name == ".." || len(name) > 255 || strings.Contains(name, "\x00") {
			return false
		}
	}
	return true
}

// may tells, of chapter 19's words alone, whether the operation may be.
func may(o api.Op) bool {
	if _, ok := chapter[o.Kind]; !ok {
		return false
	}
	path := func(word, p string) bool { return has(o.Kind, word) && plain(p) || !has(o.Kind, word) && p == "" }
	slot := has(o.Kind, "Slot") && 1 <= o.Slot && o.Slot <= 1<<30 || !has(o.Kind, "Slot") && o.Slot == 0
	data := has(o.Kind, "Data") && 1 <= len(o.Data) && len(o.Data) <= 4095 && !strings.Contains(o.Data, "\x00") || !has(o.Kind, "Data") && o.Data == ""
	apart := o.Kind != 6 || !strings.HasPrefix(o.A+"/", o.B+"/") && !strings.HasPrefix(o.B+"/", o.A+"/")
	return path("A", o.A) && path("B", o.B) && slot && data && apart
}

// straightPlan tells, of chapter 19's words alone, whether the operations are a plan.
func straightPlan(l []api.Op) bool {
	last := 0
	for _, o := range l {
		if !may(o) || o.Kind > 7 || has(o.Kind, "Slot") && o.Slot <= last {
			return false
		}
		last = max(last, o.Slot)
	}
	return true
}

// straightUndo tells, of chapter 19's words alone, whether the operations are an undo plan.
func straightUndo(l []api.Op) bool {
	last := math.MaxInt
	for _, o := range l {
		if !may(o) || o.Kind < 6 || o.Kind == 7 || has(o.Kind, "Slot") && o.Slot >= last {
			return false
		}
		if has(o.Kind, "Slot") {
			last = o.Slot
		}
	}
	return true
}

// straightLine answers, of the chapter's words alone, the operation's line.
func straightLine(o api.Op) string {
	words := strings.Fields(chapter[o.Kind])
	for i, word := range words {
		switch word {
		case "A":
			words[i] = quoted(o.A)
		case "B":
			words[i] = quoted(o.B)
		case "Data":
			words[i] = quoted(o.Data)
		case "Slot":
			words[i] = fmt.Sprint(o.Slot)
		}
	}
	return strings.Join(words, " ")
}

// straightPut answers, of the chapter's words alone, the operations' text.
func straightPut(l []api.Op) string {
	text := fmt.Sprintf("plan %d\n", len(l))
	for _, o := range l {
		text += straightLine(o) + "\n"
	}
	return text
}

var (
	quotedWord = `("(?:[ !#-\[\]-~]|\\x[0-9a-f]{2})*")`
	numberWord = `(0|[1-9][0-9]*)`
	firstLine  = regexp.MustCompile(`^plan ` + numberWord + `\n`)
	forms      = func() map[string]*regexp.Regexp {
		all := map[string]*regexp.Regexp{}
		for _, line := range chapter {
			words := strings.Fields(line)
			form := strings.NewReplacer("Slot", numberWord, "Data", quotedWord, "A", quotedWord, "B", quotedWord).Replace(line[len(words[0]):])
			all[words[0]] = regexp.MustCompile("^" + words[0] + form + "$")
		}
		return all
	}()
	kinds = func() map[string]int {
		all := map[string]int{}
		for kind, line := range chapter {
			all[strings.Fields(line)[0]] = kind
		}
		return all
	}()
)

// upTo answers the number that the digits are, if it is at most 2^30, else a greater one.
func upTo(digits string) int {
	n, err := strconv.ParseInt(digits, 10, 64)
	if err != nil || n > 1<<30 {
		return 1<<30 + 1
	}
	return int(n)
}

// straightRead answers, of the chapters' words alone, the operation whose line s is, and whether there is one.
func straightRead(s string) (api.Op, bool) {
	word, _, _ := strings.Cut(s, " ")
	form, ok := forms[word]
	if !ok {
		return api.Op{}, false
	}
	words := form.FindStringSubmatch(s)
	if words == nil {
		return api.Op{}, false
	}
	o := api.Op{Kind: kinds[word]}
	for i, field := range strings.Fields(chapter[o.Kind])[1:] {
		text, _ := strconv.Unquote(words[1+i])
		switch field {
		case "A":
			o.A = text
		case "B":
			o.B = text
		case "Data":
			o.Data = text
		case "Slot":
			o.Slot = upTo(words[1+i])
		}
	}
	// A text is quoted in one form alone.
	if !may(o) || straightLine(o) != s {
		return api.Op{}, false
	}
	return o, true
}

// straightGet answers, of the chapter's words alone, what the text is read as.
func straightGet(s string) ([]api.Op, api.Spot) {
	begin := firstLine.FindStringSubmatch(s)
	if begin == nil || upTo(begin[1]) > 1<<30 {
		return nil, api.Spot{At: 0, Err: 12}
	}
	at := len(begin[0])
	var l []api.Op
	for range upTo(begin[1]) {
		end := strings.Index(s[at:], "\n")
		if end < 0 {
			return nil, api.Spot{At: at, Err: 12}
		}
		o, ok := straightRead(s[at : at+end])
		l = append(l, o)
		if !ok || !straightPlan(l) && !straightUndo(l) {
			return nil, api.Spot{At: at, Err: 12}
		}
		at += end + 1
	}
	if at < len(s) {
		return nil, api.Spot{At: at, Err: 12}
	}
	return l, api.Spot{}
}

// holdLine asks Line about an operation that may be, and Read about its line.
func holdLine(t *testing.T, o api.Op) {
	t.Helper()
	want := straightLine(o)
	if !may(o) {
		t.Fatalf("%.300q may not be", fmt.Sprint(o))
	}
	if got := Line(o); got != want {
		t.Errorf("Line(%.300q): %.300q, not %.300q", fmt.Sprint(o), got, want)
	}
	if got, ok := Read(want); got != o || !ok {
		t.Errorf("Read(%.300q): %.300q, %t", want, fmt.Sprint(got), ok)
	}
}

// expectNone asks Read about a line that is no operation's.
func expectNone(t *testing.T, s string) {
	t.Helper()
	if got, ok := Read(s); ok || got != (api.Op{}) {
		t.Errorf("Read(%.300q): %.300q, %t", s, fmt.Sprint(got), ok)
	}
}

// holdRead asks Read about a line, and holds the answer against the chapters' words.
func holdRead(t *testing.T, s string) bool {
	t.Helper()
	got, ok := Read(s)
	want, right := straightRead(s)
	if got != want || ok != right {
		t.Errorf("Read(%.300q): %.300q, %t", s, fmt.Sprint(got), ok)
	}
	if ok && Line(got) != s {
		t.Errorf("Read(%.300q): %.300q, whose line is %.300q", s, fmt.Sprint(got), Line(got))
	}
	return ok
}

// holdPut asks Put about operations, holds the answer against the chapters' words, and reads what is put.
func holdPut(t *testing.T, l []api.Op) {
	t.Helper()
	got, e := Put(l)
	if !straightPlan(l) && !straightUndo(l) {
		if got != "" || e != api.ErrForm {
			t.Errorf("Put(%.300q): %.300q, %d", fmt.Sprint(l), got, e)
		}
		return
	}
	if want := straightPut(l); got != want || e != api.OK {
		t.Errorf("Put(%.300q): %.300q, %d, not %.300q", fmt.Sprint(l), got, e, want)
	}
	if again, spot := Get(got); !slices.Equal(again, l) || spot != (api.Spot{}) {
		t.Errorf("Get(%.300q): %.300q, %v", got, fmt.Sprint(again), spot)
	}
}

// expectFault asks Get about a text whose first line that may not stand there begins at that byte.
func expectFault(t *testing.T, s string, at int) {
	t.Helper()
	if got, spot := Get(s); len(got) != 0 || spot != (api.Spot{At: at, Err: api.ErrForm}) {
		t.Errorf("Get(%.300q): %.300q, %v, not a fault at %d", s, fmt.Sprint(got), spot, at)
	}
}

// holdGet asks Get about a text, and holds the answer against the chapters' words; it tells whether it was read.
func holdGet(t *testing.T, s string) bool {
	t.Helper()
	got, spot := Get(s)
	want, fault := straightGet(s)
	if !slices.Equal(got, want) || spot != fault {
		t.Errorf("Get(%.300q): %.300q, %v, not %.300q, %v", s, fmt.Sprint(got), spot, fmt.Sprint(want), fault)
	}
	if spot != (api.Spot{}) {
		return false
	}
	if again, e := Put(got); again != s || e != api.OK {
		t.Errorf("Get(%.300q): %.300q, which is put as %.300q, %d", s, fmt.Sprint(got), again, e)
	}
	return true
}

// whole answers an operation of the kind with all that it has.
func whole(kind int) api.Op {
	o := api.Op{Kind: kind, A: "/a"}
	if has(kind, "Slot") {
		o.Slot = 1
	}
	if has(kind, "B") {
		o.B = "/b"
	}
	if has(kind, "Data") {
		o.Data = "t"
	}
	return o
}

// each answers an operation of each kind.
func each() []api.Op {
	var all []api.Op
	for kind := 1; kind <= api.MaxOp; kind++ {
		all = append(all, whole(kind))
	}
	return all
}

// names answers names that may be, whose bytes are quoted in all ways.
func names() []string {
	all := []string{
		"a", "ab", "a b", " ", "  ", " a", "a ", `"`, `""`, `"a"`, `a"b`, `\`, `\\`, `\"`, `\x41`, `\x0a`, `x0a`, "\n", "a\nb", "\r\n", "\t",
		"\x01", "\x1f", "\x7f", "\x80", "\xff", "a\xff\xfe", "é", "日本", "...", ".a", "-", "plan", "mkdir", "1", "0", "~", "!", "#", "'", "%s",
		strings.Repeat("n", 255), strings.Repeat("\n", 255), strings.Repeat(`"`, 128) + strings.Repeat(`\`, 127),
	}
	for i := range 256 {
		if one := string([]byte{byte(i)}); plain("/" + one) {
			all = append(all, one, "a"+one, one+"b")
		}
	}
	return all
}

// targets answers links' targets that may be.
func targets() []string {
	return append(names(), "/", "//", ".", "..", "../a/", "/a b/\n", strings.Repeat("t", 4095), strings.Repeat("\n", 4095), strings.Repeat("/", 4095))
}

func someSlots() []int {
	return []int{1, 2, 9, 10, 11, 99, 100, 101, 4095, 1 << 16, 1<<30 - 1, 1 << 30}
}

// wrong answers operations that may not be.
func wrong() []api.Op {
	all := []api.Op{
		{}, {A: "/a"}, {Kind: 11, A: "/a"}, {Kind: -1, A: "/a"}, {Kind: math.MinInt}, {Kind: math.MaxInt, Slot: 1, A: "/a", B: "/b", Data: "t"},
		{Kind: 6, A: "/a", B: "/a"}, {Kind: 6, A: "/a", B: "/a/b"}, {Kind: 6, A: "/a/b", B: "/a"},
	}
	for _, o := range each() {
		for _, change := range []func(o *api.Op){
			func(o *api.Op) { o.A = "/" },
			func(o *api.Op) { o.A = "" },
			func(o *api.Op) { o.A = "a" },
			func(o *api.Op) { o.A = "/a/" },
			func(o *api.Op) { o.A = "/a\x00" },
			func(o *api.Op) { o.A = "/" + strings.Repeat("n", 256) },
			func(o *api.Op) { o.B = "/.." },
			func(o *api.Op) { o.Data += "\x00" },
			func(o *api.Op) { o.Data = strings.Repeat("t", 4096) },
			func(o *api.Op) { o.Slot = -1 },
			func(o *api.Op) { o.Slot = 1<<30 + 1 },
		} {
			x := o
			change(&x)
			all = append(all, x)
		}
	}
	return all
}

// P20.1

func TestLinesOfEachKind(t *testing.T) {
	if len(chapter) != api.MaxOp {
		t.Fatalf("%d kinds, for %d numbers", len(chapter), api.MaxOp)
	}
	for line, o := range map[string]api.Op{
		`mkdir "/a"`:                                   {Kind: api.OpMkdir, A: "/a"},
		`copy "/a" "/b"`:                               {Kind: api.OpCopy, A: "/a", B: "/b"},
		`write 1 "/d/f" "/g"`:                          {Kind: api.OpWrite, Slot: 1, A: "/d/f", B: "/g"},
		`sym "x" "/g"`:                                 {Kind: api.OpSym, Data: "x", A: "/g"},
		`link "/a" "/b"`:                               {Kind: api.OpLink, A: "/a", B: "/b"},
		`move "/g" "/d/g"`:                             {Kind: api.OpMove, A: "/g", B: "/d/g"},
		`stash 10 "/d/f"`:                              {Kind: api.OpStash, Slot: 10, A: "/d/f"},
		`erase "/a b"`:                                 {Kind: api.OpErase, A: "/a b"},
		`return 2 "/d"`:                                {Kind: api.OpReturn, Slot: 2, A: "/d"},
		`restore 1 "/g"`:                               {Kind: api.OpRestore, Slot: 1, A: "/g"},
		`copy "/a" "/a"`:                               {Kind: api.OpCopy, A: "/a", B: "/a"},
		`move "/a" "/ab"`:                              {Kind: api.OpMove, A: "/a", B: "/ab"},
		`link "/a" "/a/b"`:                             {Kind: api.OpLink, A: "/a", B: "/a/b"},
		`stash 1073741824 "/"`:                         {},
		`mkdir "/\x0a\x22\x5c\x00"`:                    {},
		`mkdir "/\x0a\x22\x5c\x7f\xff"`:                {Kind: api.OpMkdir, A: "/\n\"\\\x7f\xff"},
		`sym "../ a\x09" "/\xc3\xa9"`:                  {Kind: api.OpSym, Data: "../ a\t", A: "/é"},
		`write 1073741824 "/a" "/a"`:                   {Kind: api.OpWrite, Slot: 1 << 30, A: "/a", B: "/a"},
		`write 1073741825 "/a" "/a"`:                   {},
		`sym "` + strings.Repeat("t", 4095) + `" "/a"`: {Kind: api.OpSym, Data: strings.Repeat("t", 4095), A: "/a"},
		`sym "` + strings.Repeat("t", 4096) + `" "/a"`: {},
	} {
		got, ok := Read(line)
		if got != o || ok != (o.Kind != 0) {
			t.Errorf("Read(%.100q): %.100q, %t", line, fmt.Sprint(got), ok)
		}
		if ok && Line(o) != line {
			t.Errorf("Line(%.100q): %.100q, not %.100q", fmt.Sprint(o), Line(o), line)
		}
	}
	for _, o := range each() {
		holdLine(t, o)
	}
}

func TestLinesOfNames(t *testing.T) {
	all := names()
	for _, o := range each() {
		for i, name := range all {
			other := all[(i+7)%len(all)]
			if has(o.Kind, "B") {
				o.B = "/there/" + other + "/" + name
			}
			o.A = "/" + name
			holdLine(t, o)
			o.A = "/" + other + "/" + name + "/" + other
			holdLine(t, o)
		}
	}
	for i, target := range targets() {
		holdLine(t, api.Op{Kind: api.OpSym, Data: target, A: "/" + all[i%len(all)]})
	}
}

func TestLinesOfEachByte(t *testing.T) {
	for i := 1; i < 256; i++ {
		one := string([]byte{byte(i)})
		holdLine(t, api.Op{Kind: api.OpSym, Data: one, A: "/x" + one + "y"})
		holdLine(t, api.Op{Kind: api.OpMove, A: "/a" + one + "b", B: "/c" + one + "d"})
	}
}

func TestLinesOfSlots(t *testing.T) {
	for _, o := range each() {
		for _, slot := range someSlots() {
			if has(o.Kind, "Slot") {
				o.Slot = slot
				holdLine(t, o)
			}
		}
	}
	for slot := 1; slot <= 1200; slot++ {
		holdLine(t, api.Op{Kind: api.OpStash, Slot: slot, A: "/a"})
	}
}

func TestLinesOfLongPaths(t *testing.T) {
	for _, p := range []string{strings.Repeat("/n", 5000), strings.Repeat("/"+strings.Repeat("\n", 255), 100)} {
		for _, o := range each() {
			o.A = p
			if has(o.Kind, "B") {
				o.B = "/m" + p
			}
			holdLine(t, o)
		}
	}
}

func TestLineOfWhatMayNotBeEnds(t *testing.T) {
	for _, o := range wrong() {
		if may(o) {
			t.Fatalf("%q may be", fmt.Sprint(o))
		}
		Line(o)
	}
}

func TestReadOfNone(t *testing.T) {
	for _, s := range []string{
		"", " ", "  ", "\n", "\x00", `"`, `""`, `"/a"`, "1", "/a", "plan", "plan 0", "plan 1", `plan "/a"`,
		"mkdir", "mkdir ", " mkdir", `mkdir"/a"`, "make \"/a\"", `Mkdir "/a"`, `MKDIR "/a"`, `mkdi "/a"`, `mkdirs "/a"`, `"mkdir" "/a"`, `rm "/a"`, `1 "/a"`, `A "/a"`, `"/a" mkdir`,
		` mkdir "/a"`, `mkdir  "/a"`, `mkdir "/a" `, `mkdir "/a"  `, "\tmkdir \"/a\"", "mkdir\t\"/a\"", "mkdir \"/a\"\n", "mkdir \"/a\"\r", "\nmkdir \"/a\"", "mkdir \"/a\"\x00",
		`mkdir "/a" "/b"`, `mkdir 1 "/a"`, `mkdir "/a" 1`, `mkdir "/a" mkdir`, `copy "/a"`, `copy "/a" "/b" "/c"`, `copy 1 "/a" "/b"`, `copy "/a"  "/b"`, `copy "/a""/b"`, `copy "/a"`,
		`write "/a" "/b"`, `write 1 "/a"`, `write 1 "/a" "/b" "/c"`, `write "/a" 1 "/b"`, `write "/a" "/b" 1`, `write 1 1 "/a" "/b"`, `write`, `write 1`,
		`sym "t"`, `sym "/a"`, `sym t "/a"`, `sym "t" /a`, `sym "t" "/a" "/b"`, `sym 1 "/a"`, `sym "t" "t"`, `sym "" "/a"`, `sym "\x00" "/a"`, `sym "t\x00" "/a"`,
		`link "/a"`, `link "/a" /b`, `link /a "/b"`, `move "/a"`, `move "/a" "/b" "/c"`, `erase`, `erase /a`, `erase 1`, `erase 1 "/a"`, `erase "/a" "/b"`,
		`stash "/a"`, `stash 1`, `stash "1" "/a"`, `stash 1 /a`, `stash "/a" 1`, `stash 1 "/a" "/b"`, `stash 1 1 "/a"`, `return "/a"`, `return 1`, `restore "/a"`, `restore 1 "/a" "/b"`,
		`stash  "/a"`, `stash 0 "/a"`, `stash 00 "/a"`, `stash 01 "/a"`, `stash 010 "/a"`, `stash +1 "/a"`, `stash -1 "/a"`, `stash -0 "/a"`, `stash +0 "/a"`, `stash 1_0 "/a"`, `stash 0x1 "/a"`, `stash 1.0 "/a"`, `stash 1e1 "/a"`, `stash a "/a"`, `stash 1a "/a"`, `stash ١ "/a"`, `stash '1' "/a"`,
		`stash 1073741825 "/a"`, `stash 2147483648 "/a"`, `stash 4294967297 "/a"`, `stash 9223372036854775807 "/a"`, `stash 9223372036854775808 "/a"`, `stash 18446744073709551616 "/a"`, `stash 18446744073709551617 "/a"`, `stash 100000000000000000000000000001 "/a"`,
		`stash ` + strings.Repeat("1", 5000) + ` "/a"`, `stash ` + strings.Repeat("0", 5000) + `1 "/a"`,
		`mkdir ""`, `mkdir "/"`, `mkdir "a"`, `mkdir "a/b"`, `mkdir "//a"`, `mkdir "/a/"`, `mkdir "/a//b"`, `mkdir "/."`, `mkdir "/.."`, `mkdir "/a/./b"`, `mkdir "/a/.."`, `mkdir "/\x00"`, `mkdir "/` + strings.Repeat("n", 256) + `"`,
		`copy "/a" "/"`, `copy "/" "/a"`, `copy "/a" ""`, `copy "/a" "b"`, `write 1 "/" "/a"`, `write 1 "/a" "/"`, `link "/a" "/."`, `link "//a" "/b"`, `sym "t" "/"`, `sym "t" ""`, `return 1 "/"`, `restore 1 "a"`, `erase "/"`, `stash 1 "/"`,
		`move "/a" "/a"`, `move "/a" "/a/b"`, `move "/a/b" "/a"`, `move "/" "/a"`, `move "/a" "/"`, `move "/a/b" "/a/b/c/d"`,
		`mkdir "/\x41"`, `mkdir "/\x0A"`, `mkdir "/\X0a"`, `mkdir "\x2fa"`, `mkdir "/\n"`, `mkdir "/\""`, `mkdir "/\\"`, `mkdir "/a\"`, `mkdir "/\x0"`, `mkdir "/\xg0"`, "mkdir \"/\n\"", "mkdir \"/\x7f\"", "mkdir \"/é\"", "mkdir \"/\xff\"", `mkdir "/a`, `mkdir /a"`, `mkdir "/a""`, `mkdir ""/a"`, `mkdir '/a'`, "mkdir `/a`",
	} {
		expectNone(t, s)
		if _, ok := straightRead(s); ok {
			t.Errorf("%q is an operation's line", s)
		}
	}
}

func TestReadOfFieldsLeftOutAndPutIn(t *testing.T) {
	for _, o := range each() {
		words := strings.Fields(straightLine(o))
		for i := range words {
			expectNone(t, strings.Join(slices.Delete(slices.Clone(words), i, i+1), " "))
			expectNone(t, strings.Join(words[:i], " "))
			for _, more := range []string{`"/c"`, `"t"`, "1", "", "mkdir", `""`} {
				expectNone(t, strings.Join(slices.Insert(slices.Clone(words), i, more), " "))
				expectNone(t, strings.Join(append(slices.Clone(words), more), " "))
			}
			if word := words[i]; word[0] == '"' {
				word = strings.Trim(word, `"`)
				expectNone(t, strings.Join(slices.Replace(slices.Clone(words), i, i+1, word), " "))
			} else {
				expectNone(t, strings.Join(slices.Replace(slices.Clone(words), i, i+1, `"`+word+`"`), " "))
			}
		}
	}
}

// edits hands out the text with each of its bytes changed, taken away, and others put in, and what stands ahead of each and from each on.
func edits(s string, bytes string, do func(s string)) {
	for i := range len(s) + 1 {
		do(s[:i])
		do(s[i:])
		for j := range len(bytes) {
			do(s[:i] + bytes[j:j+1] + s[i:])
		}
		if i == len(s) {
			break
		}
		do(s[:i] + s[i+1:])
		do(s[:i] + s[i:i+1] + s[i:])
		for j := range len(bytes) {
			do(s[:i] + bytes[j:j+1] + s[i+1:])
		}
	}
}

// anyByte answers a text of all bytes.
func anyByte() string {
	var all []byte
	for i := range 256 {
		all = append(all, byte(i))
	}
	return string(all)
}

func TestReadOfChangedLines(t *testing.T) {
	right := 0
	for _, o := range append(each(),
		api.Op{Kind: api.OpWrite, Slot: 1 << 30, A: "/a b", B: "/\n"}, api.Op{Kind: api.OpSym, Data: `"\`, A: "/é"}, api.Op{Kind: api.OpMove, A: "/a", B: "/ab"}, api.Op{Kind: api.OpStash, Slot: 10, A: "/a/b"}) {
		edits(straightLine(o), anyByte(), func(s string) {
			if holdRead(t, s) {
				right++
			}
		})
	}
	if right == 0 {
		t.Error("no changed line was an operation's")
	}
}

func TestReadOfAllShortLines(t *testing.T) {
	words := []string{"mkdir", "copy", "write", "sym", "link", "move", "stash", "erase", "return", "restore", "plan", "", "1", "0", "01", "1073741825", `"/a"`, `"/b"`, `"/a/b"`, `"t"`, `"/"`, `""`, "/a", `"1"`, `"mkdir"`}
	right := map[int]int{}
	var grow func(line string, more int)
	grow = func(line string, more int) {
		if holdRead(t, line) {
			o, _ := Read(line)
			right[o.Kind]++
		}
		if more == 0 {
			return
		}
		for _, word := range words {
			grow(line+" "+word, more-1)
		}
	}
	for _, word := range words {
		grow(word, 3)
	}
	if len(right) != api.MaxOp {
		t.Errorf("operations of %d kinds were read", len(right))
	}
}

// P20.2

func TestChaptersExamples(t *testing.T) {
	if got, e := Put([]api.Op{{Kind: api.OpMkdir, A: "/a"}}); got != "plan 1\nmkdir \"/a\"\n" || e != api.OK {
		t.Errorf("Put: %q, %d", got, e)
	}
	if got, spot := Get("plan 1\nmkdir \"/a\"\n"); !slices.Equal(got, []api.Op{{Kind: api.OpMkdir, A: "/a"}}) || spot != (api.Spot{}) {
		t.Errorf("Get: %v, %v", got, spot)
	}
	for _, l := range [][]api.Op{nil, {}, make([]api.Op, 0, 3)} {
		if got, e := Put(l); got != "plan 0\n" || e != api.OK {
			t.Errorf("Put of no operations: %q, %d", got, e)
		}
	}
	if got, spot := Get("plan 0\n"); len(got) != 0 || spot != (api.Spot{}) {
		t.Errorf("Get of no operations: %v, %v", got, spot)
	}
}

func TestExamplesOfTheWhole(t *testing.T) {
	for text, l := range map[string][]api.Op{
		"plan 2\nmkdir \"/a\"\nmkdir \"/a/b\"\n":       {{Kind: api.OpMkdir, A: "/a"}, {Kind: api.OpMkdir, A: "/a/b"}},
		"plan 2\nstash 1 \"/d/f\"\nstash 2 \"/d\"\n":   {{Kind: api.OpStash, Slot: 1, A: "/d/f"}, {Kind: api.OpStash, Slot: 2, A: "/d"}},
		"plan 2\nreturn 2 \"/d\"\nreturn 1 \"/d/f\"\n": {{Kind: api.OpReturn, Slot: 2, A: "/d"}, {Kind: api.OpReturn, Slot: 1, A: "/d/f"}},
		"plan 1\nwrite 1 \"/d/f\" \"/g\"\n":            {{Kind: api.OpWrite, Slot: 1, A: "/d/f", B: "/g"}},
		"plan 1\nrestore 1 \"/g\"\n":                   {{Kind: api.OpRestore, Slot: 1, A: "/g"}},
		"plan 1\nmove \"/g\" \"/d/g\"\n":               {{Kind: api.OpMove, A: "/g", B: "/d/g"}},
		"plan 2\nstash 1 \"/g\"\nsym \"x\" \"/g\"\n":   {{Kind: api.OpStash, Slot: 1, A: "/g"}, {Kind: api.OpSym, Data: "x", A: "/g"}},
	} {
		if got, e := Put(l); got != text || e != api.OK {
			t.Errorf("Put(%v): %q, %d, not %q", l, got, e, text)
		}
		if got, spot := Get(text); !slices.Equal(got, l) || spot != (api.Spot{}) {
			t.Errorf("Get(%q): %v, %v, not %v", text, got, spot, l)
		}
	}
}

// plans answers a plan, an undo plan, and what is both, of that many operations.
func plans(many int) [][]api.Op {
	var plan, undo, both []api.Op
	all, wholes := names(), each()
	for i := range many {
		name := all[i%len(all)]
		o := wholes[i%7]
		if o.Slot != 0 {
			o.Slot = 10*i + 1
		}
		o.A = "/x/" + name
		plan = append(plan, o)
		o = wholes[[]int{5, 7, 8, 9}[i%4]]
		if o.Slot != 0 {
			o.Slot = 1<<30 - 5*i
		}
		o.A = "/x/" + name
		undo = append(undo, o)
		both = append(both, api.Op{Kind: api.OpMove, A: "/x/" + name, B: "/y/" + name})
	}
	return [][]api.Op{plan, undo, both}
}

func TestPutOfEachLength(t *testing.T) {
	for many := range 130 {
		for i, l := range plans(many) {
			if !straightPlan(l) && !straightUndo(l) {
				t.Fatalf("the list %d of %d operations is no plan: %.300q", i, many, fmt.Sprint(l))
			}
			holdPut(t, l)
		}
	}
	for _, many := range []int{999, 1000, 1001, 9999, 10000} {
		for _, l := range plans(many) {
			text, e := Put(l)
			if want := fmt.Sprintf("plan %d\n", many); !strings.HasPrefix(text, want) || strings.Count(text, "\n") != many+1 || e != api.OK {
				t.Errorf("Put of %d operations: %.100q, %d", many, text, e)
			}
			if got, spot := Get(text); !slices.Equal(got, l) || spot != (api.Spot{}) {
				t.Errorf("Get of %d operations: %d, %v", many, len(got), spot)
			}
		}
	}
}

func TestPutOfOthers(t *testing.T) {
	expect := func(l []api.Op) {
		t.Helper()
		if got, e := Put(l); got != "" || e != api.ErrForm {
			t.Errorf("Put(%.300q): %.300q, %d", fmt.Sprint(l), got, e)
		}
	}
	for _, o := range wrong() {
		expect([]api.Op{o})
		for _, l := range plans(9) {
			for i := range len(l) + 1 {
				expect(slices.Insert(slices.Clone(l), i, o))
			}
		}
	}
	stash := func(slot int) api.Op { return api.Op{Kind: api.OpStash, Slot: slot, A: "/a"} }
	back := func(slot int) api.Op { return api.Op{Kind: api.OpReturn, Slot: slot, A: "/a"} }
	write := func(slot int) api.Op { return api.Op{Kind: api.OpWrite, Slot: slot, A: "/a", B: "/b"} }
	restore := func(slot int) api.Op { return api.Op{Kind: api.OpRestore, Slot: slot, A: "/a"} }
	for _, l := range [][]api.Op{
		{stash(1), stash(1)}, {stash(2), stash(1)}, {back(1), back(2)}, {back(1), back(1)}, {stash(1), write(1)}, {write(2), stash(1)}, {restore(1), back(2)}, {back(3), restore(3)},
		{stash(1), stash(3), stash(2)}, {back(3), back(1), back(2)}, {stash(2), whole(1), whole(6), stash(2)}, {back(2), whole(8), whole(6), back(2)},
		{stash(1), back(1)}, {back(1), stash(2)}, {whole(1), whole(8)}, {whole(8), whole(1)}, {whole(6), whole(1), whole(8)}, {whole(6), whole(8), whole(1)}, {whole(2), whole(9)}, {whole(10), whole(5)},
		{stash(0)}, {stash(1<<30 + 1)}, {back(0)}, {stash(1), stash(1<<30 + 1)},
	} {
		expect(l)
	}
}

// some answers operations of each kind, those with slots in two of them.
func some() []api.Op {
	var all []api.Op
	for _, o := range each() {
		all = append(all, o)
		if o.Slot != 0 {
			o.Slot = 2
			all = append(all, o)
		}
	}
	return all
}

// lists hands out all lists of at most that many of the operations.
func lists(of []api.Op, most int, do func(l []api.Op)) {
	var grow func(l []api.Op)
	grow = func(l []api.Op) {
		do(l)
		if len(l) == most {
			return
		}
		for _, o := range of {
			grow(append(slices.Clip(l), o))
		}
	}
	grow(nil)
}

func TestPutOfAllShortLists(t *testing.T) {
	put, refused := 0, 0
	lists(append(some(), api.Op{}, api.Op{Kind: api.OpMove, A: "/a", B: "/a"}), 4, func(l []api.Op) {
		holdPut(t, l)
		if straightPlan(l) || straightUndo(l) {
			put++
		} else {
			refused++
		}
	})
	if put == 0 || refused == 0 {
		t.Errorf("%d were put, %d refused", put, refused)
	}
}

// P20.3

func TestGetOfFirstLines(t *testing.T) {
	for _, s := range []string{
		"", "\n", "\n\n", " ", " \n", "\x00", "p", "plan", "plan\n", "plan \n", "plan  \n", "plan 0", "plan 0 ", "plan 0 \n", " plan 0\n", "plan  0\n", "plan\t0\n", "plan 0\t\n", "plan 0\r\n", "\nplan 0\n", "plan 0\x00\n",
		"plan0\n", "Plan 0\n", "PLAN 0\n", "plans 0\n", "pla 0\n", "0 plan\n", "0\n", "plan plan\n", "plan a\n", "\"plan\" 0\n", "plan \"0\"\n", "plan '0'\n", "plan ٠\n",
		"plan 0 0\n", "plan 1 1\n", "plan 0 plan\n", "plan 0 \"a\"\n", "plan plan 0\n",
		"plan 00\n", "plan 01\nmkdir \"/a\"\n", "plan 0x0\n", "plan 1_0\n", "plan -0\n", "plan +0\n", "plan -1\n", "plan +1\nmkdir \"/a\"\n", "plan 0.\n", "plan 1e0\n", "plan 0,\n",
		"plan 1073741825\n", "plan 2147483647\n", "plan 2147483648\n", "plan 4294967296\n", "plan 4294967297\nmkdir \"/a\"\n", "plan 9223372036854775807\n", "plan 9223372036854775808\n", "plan 18446744073709551616\n", "plan 18446744073709551617\nmkdir \"/a\"\n", "plan 1000000000000000000000000000000\n",
		"plan " + strings.Repeat("9", 5000) + "\n", "plan " + strings.Repeat("0", 5000) + "\n", "plan 1", "plan 1 mkdir \"/a\"\n", "plan 10", "mkdir \"/a\"\n", "mkdir \"/a\"\nplan 1\n", "plan 0;", "plan 1\r\nmkdir \"/a\"\r\n",
		"plan 0\x0b\n", "\ufeffplan 0\n", "pl\nan 0\n", "plan\n0\n",
	} {
		expectFault(t, s, 0)
		holdGet(t, s)
	}
}

func TestGetOfMoreOrFewerThanSaid(t *testing.T) {
	for _, x := range []struct {
		s  string
		at int
	}{
		{"plan 1\n", 7}, {"plan 2\n", 7}, {"plan 10\n", 8}, {"plan 1073741824\n", 16}, {"plan 1073741823\n", 16},
		{"plan 1\nmkdir \"/a\"", 7}, {"plan 1\nm", 7}, {"plan 1\n ", 7}, {"plan 1\n\n", 7}, {"plan 1\n\nmkdir \"/a\"\n", 7},
		{"plan 2\nmkdir \"/a\"\n", 18}, {"plan 2\nmkdir \"/a\"\nmkdir \"/b\"", 18}, {"plan 2\nmkdir \"/a\"\n\n", 18}, {"plan 2\nmkdir \"/a\"\n\nmkdir \"/b\"\n", 18}, {"plan 1073741824\nmkdir \"/a\"\n", 27},
		{"plan 0\n\n", 7}, {"plan 0\n ", 7}, {"plan 0\nmkdir \"/a\"\n", 7}, {"plan 0\nmkdir \"/a\"", 7}, {"plan 0\nplan 0\n", 7}, {"plan 0\n\x00", 7},
		{"plan 1\nmkdir \"/a\"\n\n", 18}, {"plan 1\nmkdir \"/a\"\n ", 18}, {"plan 1\nmkdir \"/a\"\nmkdir \"/b\"\n", 18}, {"plan 1\nmkdir \"/a\"\nmkdir \"/b\"", 18}, {"plan 1\nmkdir \"/a\"\nx\ny\n", 18},
		{"plan 1\nmake \"/a\"\nmkdir \"/b\"\n", 7}, {"plan 1\nmake \"/a\"\n", 7}, {"plan 1\nmkdir \"/a\" \n", 7}, {"plan 1\nmkdir \"/a\"\r\n", 7}, {"plan 1\n mkdir \"/a\"\n", 7},
	} {
		expectFault(t, x.s, x.at)
		holdGet(t, x.s)
	}
}

// texted answers the text of lines, whatever they are, with a first line that says how many there are.
func texted(lines ...string) string {
	return strings.Join(append([]string{fmt.Sprintf("plan %d", len(lines))}, lines...), "\n") + "\n"
}

func TestGetTellsTheFirstFault(t *testing.T) {
	move, mkdir, erase, stash1, stash2, back1, back2 := `move "/a" "/b"`, `mkdir "/a"`, `erase "/a"`, `stash 1 "/a"`, `stash 2 "/a"`, `return 1 "/a"`, `return 2 "/a"`
	write1, restore2, none := `write 1 "/a" "/b"`, `restore 2 "/a"`, `mkdir /a`
	for _, x := range []struct {
		lines []string
		bad   int // the place of the first line that may not stand there; as many as there are: none
	}{
		{[]string{none}, 0}, {[]string{mkdir, none}, 1}, {[]string{none, none}, 0}, {[]string{mkdir, erase}, 1}, {[]string{erase, mkdir}, 1}, {[]string{mkdir, erase, none}, 1}, {[]string{none, mkdir, erase}, 0}, {[]string{mkdir, none, erase}, 1},
		{[]string{move, move, move}, 3}, {[]string{move, mkdir, move}, 3}, {[]string{move, erase, move}, 3}, {[]string{move, mkdir, erase}, 2}, {[]string{move, erase, mkdir}, 2}, {[]string{mkdir, move, move, erase}, 3}, {[]string{move, move, none}, 2},
		{[]string{stash1, stash2}, 2}, {[]string{stash2, stash1}, 1}, {[]string{stash1, stash1}, 1}, {[]string{back2, back1}, 2}, {[]string{back1, back2}, 1}, {[]string{back1, back1}, 1}, {[]string{stash1, back1}, 1}, {[]string{back2, stash1}, 1},
		{[]string{stash1, move, mkdir, stash1}, 3}, {[]string{stash1, move, mkdir, stash2}, 4}, {[]string{back2, move, erase, back2}, 3}, {[]string{back2, move, erase, back1}, 4},
		{[]string{write1, stash2}, 2}, {[]string{stash2, write1}, 1}, {[]string{stash1, write1}, 1}, {[]string{restore2, back1}, 2}, {[]string{back1, restore2}, 1}, {[]string{back2, restore2}, 1},
		{[]string{stash2, stash1, none}, 1}, {[]string{stash1, stash2, stash1, back1}, 2}, {[]string{back2, back1, back2, stash1}, 2}, {[]string{move, stash1, back1}, 2}, {[]string{move, back1, stash2}, 2},
		{[]string{mkdir, mkdir, `stash 0 "/a"`}, 2}, {[]string{mkdir, `stash 1073741825 "/a"`, none}, 1}, {[]string{mkdir, `move "/a" "/a/b"`}, 1}, {[]string{erase, `move "/a/b" "/a"`, erase}, 1}, {[]string{`plan 1`, mkdir}, 0}, {[]string{mkdir, `plan 0`}, 1}, {[]string{mkdir, "", mkdir}, 1},
	} {
		s := texted(x.lines...)
		if x.bad < len(x.lines) {
			expectFault(t, s, len(fmt.Sprintf("plan %d\n", len(x.lines)))+len(strings.Join(append(slices.Clone(x.lines[:x.bad]), ""), "\n")))
		}
		if got := holdGet(t, s); got != (x.bad == len(x.lines)) {
			t.Errorf("Get(%q): read %t", s, got)
		}
	}
}

func TestGetOfAllShortTexts(t *testing.T) {
	lines := []string{"plan 1", "", " ", `mkdir "/a"`, `erase "/a"`, `move "/a" "/b"`, `stash 1 "/a"`, `stash 2 "/a"`, `return 1 "/a"`, `return 2 "/a"`, `write 3 "/a" "/b"`, `move "/a" "/a"`}
	read := 0
	var grow func(s string, more int)
	grow = func(s string, more int) {
		for _, line := range append(lines, "") {
			if holdGet(t, s+line) {
				read++
			}
			if more > 0 {
				grow(s+line+"\n", more-1)
			}
		}
	}
	for _, first := range []string{"plan 0", "plan 1", "plan 2", "plan 3", "plan 4", "plan", "", `mkdir "/a"`} {
		grow(first+"\n", 3)
	}
	if read == 0 {
		t.Error("nothing was read")
	}
}

func TestJustTheTextsOfPlansAreRead(t *testing.T) {
	right := map[string][]api.Op{}
	lists(some(), 3, func(l []api.Op) {
		if straightPlan(l) || straightUndo(l) {
			right[straightPut(l)] = l
		}
	})
	lists(some(), 3, func(l []api.Op) {
		for said := range 5 {
			_, body, _ := strings.Cut(straightPut(l), "\n")
			s := fmt.Sprintf("plan %d\n%s", said, body)
			want, ok := right[s]
			if got, spot := Get(s); !slices.Equal(got, want) || (spot == api.Spot{}) != ok {
				t.Errorf("Get(%q): %v, %v", s, got, spot)
			}
		}
	})
}

// samples answers plans and undo plans whose texts are changed.
func samples() [][]api.Op {
	all := [][]api.Op{nil}
	for _, o := range each() {
		all = append(all, []api.Op{o})
	}
	return append(all,
		[]api.Op{{Kind: api.OpMkdir, A: "/a"}, {Kind: api.OpMkdir, A: "/a/b"}},
		[]api.Op{{Kind: api.OpStash, Slot: 1, A: "/d/f"}, {Kind: api.OpStash, Slot: 2, A: "/d"}},
		[]api.Op{{Kind: api.OpReturn, Slot: 12, A: "/d"}, {Kind: api.OpRestore, Slot: 9, A: "/d/f"}, {Kind: api.OpErase, A: "/x"}},
		[]api.Op{{Kind: api.OpMove, A: "/a", B: "/ab"}, {Kind: api.OpMove, A: "/a b", B: "/\n"}},
		[]api.Op{{Kind: api.OpStash, Slot: 1, A: `/"\`}, {Kind: api.OpSym, Data: "\xff", A: "/g"}, {Kind: api.OpWrite, Slot: 1 << 30, A: "/g", B: "/h"}, {Kind: api.OpLink, A: "/h", B: "/i"}, {Kind: api.OpCopy, A: "/h", B: "/j"}},
		plans(12)[0], plans(12)[1],
	)
}

func TestGetOfWhatIsPut(t *testing.T) {
	for _, l := range samples() {
		holdPut(t, l)
		if !holdGet(t, straightPut(l)) {
			t.Errorf("%q isn't read", straightPut(l))
		}
	}
}

func TestGetOfTextsCutOff(t *testing.T) {
	for _, l := range samples() {
		s := straightPut(l)
		for i := range len(s) {
			holdGet(t, s[:i])
			expectFault(t, s[:i], strings.LastIndex(s[:i], "\n")+1)
		}
	}
}

func TestGetOfChangedBytes(t *testing.T) {
	read := 0
	for i, l := range samples() {
		bytes := " \n\"\\/x0129a.-\x00\t\x7f\xff"
		if i%6 == 0 {
			bytes = anyByte()
		}
		edits(straightPut(l), bytes, func(s string) {
			if holdGet(t, s) {
				read++
			}
		})
	}
	if read == 0 {
		t.Error("no changed text was read")
	}
}

func TestGetOfChangedLines(t *testing.T) {
	for _, l := range samples() {
		lines := strings.SplitAfter(straightPut(l), "\n")
		for i := range lines {
			holdGet(t, strings.Join(slices.Delete(slices.Clone(lines), i, i+1), ""))
			holdGet(t, strings.Join(slices.Insert(slices.Clone(lines), i, lines[i]), ""))
			for j := range lines {
				other := slices.Clone(lines)
				other[i], other[j] = lines[j], lines[i]
				holdGet(t, strings.Join(other, ""))
				holdGet(t, strings.Join(slices.Insert(slices.Clone(lines), i, lines[j]), ""))
			}
			for _, more := range []string{"\n", " \n", "mkdir \"/x\"\n", "erase \"/x\"\n", "plan 1\n", "stash 1073741824 \"/a\"\n"} {
				holdGet(t, strings.Join(slices.Insert(slices.Clone(lines), i, more), ""))
				holdGet(t, strings.Join(slices.Replace(slices.Clone(lines), i, i+1, more), ""))
			}
		}
	}
}

func TestGetOfMoreBehindTheEnd(t *testing.T) {
	for _, l := range samples() {
		s := straightPut(l)
		for _, more := range []string{"\n", " ", "\x00", "x", "\n\n", "mkdir \"/z\"", "mkdir \"/z\"\n", "erase \"/z\"\n", "plan 0\n", s, "\r\n", "\"", "0"} {
			expectFault(t, s+more, len(s))
			holdGet(t, s+more)
		}
	}
}

func TestGetOfOtherNumbers(t *testing.T) {
	for _, l := range samples() {
		_, body, _ := strings.Cut(straightPut(l), "\n")
		for _, said := range []int{0, 1, 2, 3, 4, 5, 6, 11, 12, 13, 100, 1 << 16, 1<<30 - 1, 1 << 30, 1<<30 + 1, 1 << 31, math.MaxInt} {
			s := fmt.Sprintf("plan %d\n%s", said, body)
			if got := holdGet(t, s); got != (said == len(l)) {
				t.Errorf("Get(%q): read %t", s, got)
			}
			switch begin := len(s) - len(body); {
			case said > 1<<30:
				expectFault(t, s, 0)
			case said > len(l):
				expectFault(t, s, len(s))
			case said < len(l):
				at := begin
				for range said {
					at += strings.Index(s[at:], "\n") + 1
				}
				expectFault(t, s, at)
			}
		}
	}
}

func TestGetOfLongTexts(t *testing.T) {
	const many = 1 << 16
	var text strings.Builder
	text.WriteString(fmt.Sprintf("plan %d\n", many))
	for i := range many {
		text.WriteString([]string{`mkdir "/a"`, `move "/a" "/b"`, fmt.Sprintf(`stash %d "/a"`, i+1)}[i%3] + "\n")
	}
	s := text.String()
	begun := time.Now()
	l, spot := Get(s)
	if len(l) != many || spot != (api.Spot{}) {
		t.Fatalf("Get of a long text: %d operations, %v", len(l), spot)
	}
	if again, e := Put(l); again != s || e != api.OK {
		t.Errorf("Put of a long plan: %d bytes, %d", len(again), e)
	}
	last := strings.LastIndex(s[:len(s)-1], "\n") + 1
	expectFault(t, s[:last]+"stash 1 \"/a\"\n", last)
	expectFault(t, s[:last]+"erase \"/a\"\n", last)
	expectFault(t, s[:last], last)
	expectFault(t, s+"\n", len(s))
	// All of it takes well under a second, if each line is asked about once, and hours, if all lines ahead are asked about once more each time.
	if took := time.Since(begun); took > time.Minute {
		t.Errorf("a long text took %v", took)
	}
}

func TestGetOfLongLines(t *testing.T) {
	long := strings.Repeat("/n", 1<<20)
	o := api.Op{Kind: api.OpMove, A: long, B: long + "m"}
	holdLine(t, o)
	holdPut(t, []api.Op{o, o})
	expectFault(t, "plan 1\n"+strings.Repeat("x", 1<<20)+"\n", 7)
	expectFault(t, "plan 1\n"+strings.Repeat("x ", 1<<20)+"\n", 7)
	expectFault(t, "plan 1\n"+strings.Repeat("\"", 1<<20)+"\n", 7)
	expectFault(t, strings.Repeat("\n", 1<<20), 0)
	expectFault(t, "plan 1073741824\n"+strings.Repeat("\n", 1<<20), 16)
	expectFault(t, strings.Repeat("1", 1<<20), 0)
	expectFault(t, "plan "+strings.Repeat("1", 1<<20)+"\n", 0)
}

// P20.4

func TestPutIsReadAsItWas(t *testing.T) {
	check := func(l []api.Op) {
		t.Helper()
		s, e := Put(l)
		if got, spot := Get(s); e == api.OK && (!slices.Equal(got, l) || spot != (api.Spot{})) {
			t.Errorf("Get(Put(%.300q)): %.300q, %v", fmt.Sprint(l), fmt.Sprint(got), spot)
		}
	}
	for many := range 300 {
		for _, l := range plans(many) {
			check(l)
		}
	}
	lists(some(), 3, check)
	for _, a := range names()[:40] {
		for _, b := range names() {
			check([]api.Op{{Kind: api.OpStash, Slot: 7, A: "/" + a}, {Kind: api.OpSym, Data: b, A: "/" + a + "/" + b}, {Kind: api.OpLink, A: "/" + b, B: "/" + a}})
		}
	}
}

func TestLinesOfTwoOperationsAreUnlike(t *testing.T) {
	seen := map[string]api.Op{}
	for _, o := range some() {
		for _, name := range names() {
			o.A = "/x/" + name
			if other, ok := seen[Line(o)]; ok && other != o {
				t.Errorf("Line of %q and %q: %q", fmt.Sprint(other), fmt.Sprint(o), Line(o))
			}
			seen[Line(o)] = o
		}
	}
}

// P20.5

// shares tells whether two texts have memory in common.
func shares(a, b string) bool {
	if a == "" || b == "" {
		return false
	}
	x, y := uintptr(unsafe.Pointer(unsafe.StringData(a))), uintptr(unsafe.Pointer(unsafe.StringData(b)))
	return x < y+uintptr(len(b)) && y < x+uintptr(len(a))
}

func TestHandedInStays(t *testing.T) {
	for _, l := range append(samples(), wrong(), []api.Op{whole(8), whole(1)}) {
		room := append(slices.Clone(l), api.Op{Kind: 7, Slot: 9, A: "/behind"}, api.Op{Kind: 8})
		was := slices.Clone(room)
		part := room[:len(l)]
		first, _ := Put(part)
		for range 2 {
			for _, o := range part {
				Line(o)
			}
			if s, _ := Put(part); s != first {
				t.Errorf("Put answers %q, and then %q", first, s)
			}
			if !slices.Equal(room, was) {
				t.Fatalf("what was handed in is %q, and was %q", fmt.Sprint(room), fmt.Sprint(was))
			}
		}
	}
}

func TestTextsHandedInStay(t *testing.T) {
	was := texted(`stash 1 "/a b"`, `sym "t" "/a"`)
	memory := []byte(was + "behind")
	s := unsafe.String(&memory[0], len(was))
	line := s[7:21]
	l, spot := Get(s)
	o, ok := Read(line)
	if len(l) != 2 || spot != (api.Spot{}) || !ok {
		t.Fatalf("Get(%q): %v, %v; Read(%q): %t", s, l, spot, line, ok)
	}
	if string(memory) != was+"behind" {
		t.Errorf("what was handed in is %q", memory)
	}
	for i := range memory {
		memory[i] = 'x'
	}
	want := []api.Op{{Kind: api.OpStash, Slot: 1, A: "/a b"}, {Kind: api.OpSym, Data: "t", A: "/a"}}
	if !slices.Equal(l, want) || o != want[0] {
		t.Errorf("what was answered hangs on what was handed in: %v, %v", l, o)
	}
}

func TestPutsAnswerHangsOnNothing(t *testing.T) {
	name := []byte("/abc")
	p := unsafe.String(&name[0], len(name))
	o := api.Op{Kind: api.OpMkdir, A: p}
	s, _ := Put([]api.Op{o})
	line := Line(o)
	name[1] = 'x'
	if s != "plan 1\nmkdir \"/abc\"\n" || line != `mkdir "/abc"` {
		t.Errorf("what was answered hangs on what was handed in: %q, %q", s, line)
	}
}

func TestAnswersAreNew(t *testing.T) {
	for _, o := range append(some(), api.Op{Kind: api.OpSym, Data: "/", A: "/x"}) {
		line := Line(o)
		if shares(line, Line(o)) || shares(line, o.A) || shares(line, o.B) || shares(line, o.Data) {
			t.Errorf("Line(%v) shares memory", o)
		}
		a, _ := Read(line)
		b, _ := Read(line)
		for _, text := range []string{a.A, a.B, a.Data} {
			for _, other := range []string{line, b.A, b.B, b.Data} {
				if shares(text, other) {
					t.Errorf("Read(%q): %q shares memory", line, text)
				}
			}
		}
		if shares(a.A, a.B) || shares(a.A, a.Data) {
			t.Errorf("Read(%q): two texts of it share memory", line)
		}
	}
	s := straightPut(samples()[len(samples())-3])
	first, _ := Get(s)
	second, _ := Get(s)
	want := slices.Clone(second)
	for i, o := range first {
		for _, text := range []string{o.A, o.B, o.Data} {
			for _, other := range []string{s, second[i].A, second[i].B, second[i].Data} {
				if shares(text, other) {
					t.Errorf("Get(%q): %q shares memory", s, text)
				}
			}
		}
		first[i] = api.Op{}
	}
	_ = append(first, api.Op{Kind: 99})
	third, _ := Get(s)
	if !slices.Equal(second, want) || !slices.Equal(third, want) {
		t.Errorf("Get(%q): %v and %v, with another answer changed", s, second, third)
	}
	x, _ := Put(want)
	y, _ := Put(want)
	if shares(x, y) {
		t.Errorf("Put(%v) answers one memory twice", want)
	}
}

// The rules that hold everywhere

func TestNothingBesideAFault(t *testing.T) {
	for _, s := range []string{"", "x", "plan 2\nmkdir \"/a\"\n", "plan 2\nmkdir \"/a\"\nerase \"/a\"\n", "plan 1\nmkdir \"/a\"\nx", "plan 0\n\n"} {
		if l, spot := Get(s); len(l) != 0 || spot.Err != api.ErrForm {
			t.Errorf("Get(%q): %v, %v", s, l, spot)
		}
	}
	for _, s := range []string{"", `stash 0 "/a"`, `mkdir "/a" "/b"`, `write 7 "/a" "b"`, `sym "t" "a"`, `move "/a" "/a"`} {
		expectNone(t, s)
	}
}

func TestTheSameAgain(t *testing.T) {
	for range 50 {
		for _, l := range samples() {
			holdPut(t, l)
			holdGet(t, straightPut(l)+"x")
			for _, o := range l {
				holdLine(t, o)
			}
		}
	}
}

func TestAllAtOnce(t *testing.T) {
	var all sync.WaitGroup
	for range 8 {
		all.Go(func() {
			lists(some(), 2, func(l []api.Op) { holdPut(t, l) })
			for _, l := range samples() {
				holdGet(t, straightPut(l))
				holdGet(t, straightPut(l)+"\n")
			}
		})
	}
	all.Wait()
}
