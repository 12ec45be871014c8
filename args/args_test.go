package args

import (
	"fmt"
	"math"
	"slices"
	"strings"
	"testing"
	"unsafe"

	"drayman/api"
)

// known is a command as the chapter words it: its kind, its name, its options, as they stand there, and how many operands it needs.
type known struct {
	kind    int
	name    string
	options string
	needs   int
}

// five answers the five commands.
func five() []known {
	return []known{
		{1, "mkdir", "p", 1},
		{2, "rm", "dfrR", 1},
		{3, "ln", "fnsT", 1},
		{4, "mv", "fnT", 2},
		{5, "cp", "fnrRPT", 2},
	}
}

// none answers numbers that are no command's.
func none() []int {
	return []int{math.MinInt, math.MinInt + 1, math.MinInt + 5, -256, -5, -1, 0, 6, 7, 256, 257, 261, 1 << 32, 1<<32 + 1, 1<<32 + 5, math.MaxInt - 1, math.MaxInt}
}

// expect asks Read for a command.
func expect(t *testing.T, want api.Cmd, argv ...string) {
	t.Helper()
	c, told := Read(argv)
	if !same(c, want) || told != "" {
		t.Errorf("Read(%.300q): %.300v and %.300q, not %.300v", argv, c, told, want)
	}
}

// expectTold asks Read what is told, beside which the command is zero.
func expectTold(t *testing.T, want string, argv ...string) {
	t.Helper()
	c, told := Read(argv)
	if c.Kind != 0 || c.Options != "" || len(c.Operands) != 0 || told != want {
		t.Errorf("Read(%.300q): %.300v and %.300q, not %.300q", argv, c, told, want)
	}
}

// same tells whether two commands are alike in each field.
func same(c, d api.Cmd) bool {
	return c.Kind == d.Kind && c.Options == d.Options && slices.Equal(c.Operands, d.Operands)
}

// cmd answers the command of these options and operands.
func cmd(kind int, options string, operands ...string) api.Cmd {
	return api.Cmd{Kind: kind, Options: options, Operands: operands}
}

// quoted answers, of chapter 1's words alone, the text, quoted.
func quoted(s string) string {
	out := `"`
	for i := range len(s) {
		if b := s[i]; b < 0x20 || b > 0x7e || b == 0x22 || b == 0x5c {
			out += fmt.Sprintf(`\x%02x`, b)
		} else {
			out += s[i : i+1]
		}
	}
	return out + `"`
}

// straight answers, of the chapter's words alone, what Read answers.
func straight(argv []string) (api.Cmd, string) {
	if len(argv) == 0 {
		return api.Cmd{}, "missing command"
	}
	at := slices.IndexFunc(five(), func(k known) bool { return k.name == argv[0] })
	if at < 0 {
		return api.Cmd{}, quoted(argv[0]) + ": unknown command"
	}
	k := five()[at]
	// Words of options are those ahead of the first that is none, or of --, which is left out.
	many := 1
	for many < len(argv) && len(argv[many]) >= 2 && argv[many][0] == '-' && argv[many] != "--" {
		many++
	}
	letters := ""
	for _, word := range argv[1:many] {
		letters += word[1:]
	}
	operands := argv[many:]
	if len(operands) > 0 && operands[0] == "--" {
		operands = operands[1:]
	}
	for _, b := range []byte(letters) {
		if !strings.Contains(k.options, string([]byte{b})) {
			return api.Cmd{}, k.name + ": invalid option " + quoted(string([]byte{b}))
		}
	}
	options := optionsOf(k, letters)
	wrong := wrongOf(k, options, operands)
	if wrong != "" {
		return api.Cmd{}, k.name + ": " + wrong
	}
	return api.Cmd{Kind: k.kind, Options: options, Operands: operands}, ""
}

// optionsOf answers, of the chapter's words alone, the options whose letters these are.
func optionsOf(k known, letters string) string {
	letters = strings.ReplaceAll(letters, "R", "r")
	if k.name == "mv" || k.name == "cp" {
		f, n := strings.LastIndexByte(letters, 'f'), strings.LastIndexByte(letters, 'n')
		if f < n {
			letters = strings.ReplaceAll(letters, "f", "")
		} else {
			letters = strings.ReplaceAll(letters, "n", "")
		}
	}
	rising := []byte(letters)
	slices.Sort(rising)
	return string(slices.Compact(rising))
}

// wrongOf answers, of the chapter's words alone, what is told of the operands.
func wrongOf(k known, options string, operands []string) string {
	needs := k.needs
	if strings.Contains(options, "T") {
		needs = 2
	}
	if k.name == "rm" && strings.Contains(options, "f") {
		needs = 0
	}
	if len(operands) == 0 && needs > 0 {
		return "missing operand"
	}
	if len(operands) < needs {
		return "missing destination operand after " + quoted(operands[len(operands)-1])
	}
	if strings.Contains(options, "T") && len(operands) > 2 {
		return "extra operand " + quoted(operands[2])
	}
	return ""
}

// P17.1: Name

func TestName(t *testing.T) {
	for _, k := range five() {
		if got := Name(k.kind); got != k.name {
			t.Errorf("Name(%d): %q, not %q", k.kind, got, k.name)
		}
	}
	for kind, want := range map[int]string{api.CmdMkdir: "mkdir", api.CmdRm: "rm", api.CmdLn: "ln", api.CmdMv: "mv", api.CmdCp: "cp"} {
		if got := Name(kind); got != want {
			t.Errorf("Name(%d): %q, not %q", kind, got, want)
		}
	}
}

func TestNameOfNone(t *testing.T) {
	for _, kind := range none() {
		if got := Name(kind); got != "" {
			t.Errorf("Name(%d): %q", kind, got)
		}
	}
	for kind := -1000; kind <= 1000; kind++ {
		if got := Name(kind); (got != "") != (kind >= 1 && kind <= 5) {
			t.Errorf("Name(%d): %q", kind, got)
		}
	}
}

// P17.1: Has

func TestHas(t *testing.T) {
	for _, options := range []string{"", "p", "r", "f", "dfr", "Tfns", "PTfr", "R", "rR", "nf", "ff", "\x00", "\xff", "a\x00b", "\x80\xff", "é", "-", "e\u0301"} {
		held := map[byte]bool{}
		for _, b := range []byte(options) {
			held[b] = true
		}
		for b := range 256 {
			for _, kind := range append(none(), 1, 2, 3, 4, 5) {
				c := cmd(kind, options, "a", "x\x00\xff")
				if got := Has(c, byte(b)); got != held[byte(b)] {
					t.Fatalf("Has of %q and the byte %02x: %v", options, b, got)
				}
			}
		}
	}
}

func TestHasOfAllBytes(t *testing.T) {
	var all []byte
	for b := range 256 {
		all = append(all, byte(b))
	}
	for b := range 256 {
		without := slices.Delete(slices.Clone(all), b, b+1)
		if !Has(cmd(0, string(all)), byte(b)) || Has(cmd(0, string(without)), byte(b)) {
			t.Errorf("Has of the byte %02x", b)
		}
	}
}

func TestHasOfWhatWasRead(t *testing.T) {
	c, _ := Read([]string{"cp", "-Rf", "a", "b"})
	for b := range 256 {
		if got := Has(c, byte(b)); got != (b == 'r' || b == 'f') {
			t.Errorf("Has of cp -Rf and the byte %02x: %v", b, got)
		}
	}
}

// P17.2

func TestChaptersExamples(t *testing.T) {
	expect(t, cmd(api.CmdCp, "fr", "a", "b"), "cp", "-rf", "a", "b")
	expectTold(t, `mv: missing destination operand after "a"`, "mv", "a")
	expectTold(t, `rm: invalid option "x"`, "rm", "-x")
	expectTold(t, `cp: invalid option "x"`, "cp", "-x")
}

func TestOrdinary(t *testing.T) {
	expect(t, cmd(api.CmdMkdir, "p", "a/b"), "mkdir", "-p", "a/b")
	expect(t, cmd(api.CmdMkdir, "", "a", "b", "c", "d"), "mkdir", "a", "b", "c", "d")
	expect(t, cmd(api.CmdRm, "r", "d"), "rm", "-r", "d")
	expect(t, cmd(api.CmdRm, "", "d/.", "e"), "rm", "d/.", "e")
	expect(t, cmd(api.CmdLn, "fs", "x", "g"), "ln", "-sf", "x", "g")
	expect(t, cmd(api.CmdLn, "", "x"), "ln", "x")
	expect(t, cmd(api.CmdMv, "", "g", "d"), "mv", "g", "d")
	expect(t, cmd(api.CmdMv, "T", "g", "d"), "mv", "-T", "g", "d")
	expect(t, cmd(api.CmdCp, "", "d/f", "g"), "cp", "d/f", "g")
	expect(t, cmd(api.CmdCp, "PTfr", "d f", "\xff"), "cp", "-PTrf", "d f", "\xff")
}

func TestNoWords(t *testing.T) {
	expectTold(t, "missing command")
	c, told := Read([]string{})
	if !same(c, api.Cmd{}) || told != "missing command" {
		t.Errorf("Read of an empty list: %v and %q", c, told)
	}
	c, told = Read([]string{"rm", "a"}[:0])
	if !same(c, api.Cmd{}) || told != "missing command" {
		t.Errorf("Read of an empty list with room behind it: %v and %q", c, told)
	}
}

func TestNamesThatAreNone(t *testing.T) {
	for name, want := range map[string]string{
		"":         `"": unknown command`,
		" ":        `" ": unknown command`,
		"rm ":      `"rm ": unknown command`,
		" rm":      `" rm": unknown command`,
		"rm -r":    `"rm -r": unknown command`,
		"RM":       `"RM": unknown command`,
		"r":        `"r": unknown command`,
		"rmdir":    `"rmdir": unknown command`,
		"mkdirs":   `"mkdirs": unknown command`,
		"/cp":      `"/cp": unknown command`,
		"--":       `"--": unknown command`,
		"-r":       `"-r": unknown command`,
		"1":        `"1": unknown command`,
		`"rm"`:     `"\x22rm\x22": unknown command`,
		`\x`:       `"\x5cx": unknown command`,
		"rm\x00":   `"rm\x00": unknown command`,
		"a\n\xffé": `"a\x0a\xff\xc3\xa9": unknown command`,
	} {
		expectTold(t, want, name)
		expectTold(t, want, name, "a", "b")
		expectTold(t, want, name, "-x", "--", "a")
		expectTold(t, want, name, "rm")
	}
}

func TestEachLetterAlone(t *testing.T) {
	for _, k := range five() {
		for b := range 256 {
			letter := string([]byte{byte(b)})
			argv := []string{k.name, "-" + letter, "a", "b"}
			switch {
			case letter == "-":
				// That is --, which ends the options.
				expect(t, cmd(k.kind, "", "a", "b"), argv...)
			case letter == "R" && strings.Contains(k.options, letter):
				expect(t, cmd(k.kind, "r", "a", "b"), argv...)
			case strings.Contains(k.options, letter):
				expect(t, cmd(k.kind, letter, "a", "b"), argv...)
			default:
				expectTold(t, k.name+": invalid option "+quoted(letter), argv...)
				// So it is with no operand, too.
				expectTold(t, k.name+": invalid option "+quoted(letter), argv[:2]...)
			}
		}
	}
}

func TestEachLetterBehindAnother(t *testing.T) {
	for _, k := range five() {
		ahead := k.options[:1]
		for b := range 256 {
			letter := string([]byte{byte(b)})
			argv := []string{k.name, "-" + ahead + letter, "a", "b"}
			if !strings.Contains(k.options, letter) {
				expectTold(t, k.name+": invalid option "+quoted(letter), argv...)
				continue
			}
			expect(t, cmd(k.kind, optionsOf(k, ahead+letter), "a", "b"), argv...)
		}
	}
}

func TestFirstOfSeveralLetters(t *testing.T) {
	expectTold(t, `rm: invalid option "x"`, "rm", "-xy", "a")
	expectTold(t, `rm: invalid option "y"`, "rm", "-yx", "a")
	expectTold(t, `rm: invalid option "x"`, "rm", "-rx", "-y", "a")
	expectTold(t, `rm: invalid option "x"`, "rm", "-r", "-fdx", "-y", "-z", "a")
	expectTold(t, `cp: invalid option "d"`, "cp", "-Rd", "-x", "a")
	expectTold(t, `mv: invalid option "r"`, "mv", "-rR", "a", "b")
	expectTold(t, `ln: invalid option "F"`, "ln", "-sF", "a", "b")
}

func TestLettersThatAreNoSigns(t *testing.T) {
	expectTold(t, `cp: invalid option "\xff"`, "cp", "-r\xff", "a", "b")
	expectTold(t, `cp: invalid option "\x00"`, "cp", "-\x00r", "a", "b")
	expectTold(t, `cp: invalid option "\xc3"`, "cp", "-é", "a", "b")
	expectTold(t, `cp: invalid option "\x0a"`, "cp", "-\n", "a", "b")
	expectTold(t, `rm: invalid option "\x22"`, "rm", `-"r"`, "a")
	expectTold(t, `rm: invalid option "\x5c"`, "rm", `-\`, "a")
	expectTold(t, `rm: invalid option " "`, "rm", "- ", "a")
	expectTold(t, `rm: invalid option " "`, "rm", "-r -f", "a")
}

func TestTooFewOperands(t *testing.T) {
	for _, k := range five() {
		expectTold(t, k.name+": missing operand", k.name)
		expectTold(t, k.name+": missing operand", k.name, "--")
		expectTold(t, k.name+": missing operand", k.name, "-"+strings.ReplaceAll(k.options, "f", ""), "--")
	}
	for _, name := range []string{"mv", "cp"} {
		expectTold(t, name+`: missing destination operand after "a"`, name, "a")
		expectTold(t, name+`: missing destination operand after "a"`, name, "-f", "--", "a")
		expectTold(t, name+`: missing destination operand after "a"`, name, "-T", "a")
		expectTold(t, name+`: missing operand`, name, "-T")
	}
	expect(t, cmd(api.CmdLn, "", "a"), "ln", "a")
	expect(t, cmd(api.CmdLn, "fns", "a"), "ln", "-sfn", "a")
	expectTold(t, `ln: missing destination operand after "a"`, "ln", "-T", "a")
	expectTold(t, `ln: missing destination operand after "a"`, "ln", "-sTf", "a")
	expectTold(t, "ln: missing operand", "ln", "-T")
	for operand, want := range map[string]string{"": `""`, "-": `"-"`, "a b": `"a b"`, "\x00\xff": `"\x00\xff"`, `"`: `"\x22"`, "é/": `"\xc3\xa9/"`} {
		expectTold(t, "mv: missing destination operand after "+want, "mv", operand)
		expectTold(t, "ln: missing destination operand after "+want, "ln", "-T", operand)
	}
	expectTold(t, `mv: missing destination operand after "-x"`, "mv", "--", "-x")
	expectTold(t, `cp: missing destination operand after "--"`, "cp", "--", "--")
}

func TestTooManyOperands(t *testing.T) {
	for _, name := range []string{"ln", "mv", "cp"} {
		expectTold(t, name+`: extra operand "c"`, name, "-T", "a", "b", "c")
		expectTold(t, name+`: extra operand "c"`, name, "-fT", "a", "b", "c", "d", "e")
		expectTold(t, name+`: extra operand ""`, name, "-T", "a", "b", "")
		expectTold(t, name+`: extra operand "-x"`, name, "-T", "a", "b", "-x")
		expectTold(t, name+`: extra operand "--"`, name, "-T", "--", "a", "b", "--")
		expectTold(t, name+`: extra operand "c d\x0a\xff"`, name, "-T", "a", "b", "c d\n\xff")
	}
}

func TestHowManyOperandsMayBe(t *testing.T) {
	all := []string{"a", "b", "c", "d", "e", "f", "g", "h"}
	for _, k := range five() {
		for many := range len(all) + 1 {
			operands := all[:many]
			if many >= k.needs {
				expect(t, cmd(k.kind, "", operands...), append([]string{k.name}, operands...)...)
			}
			if many == 2 && strings.Contains(k.options, "T") {
				expect(t, cmd(k.kind, "T", operands...), append([]string{k.name, "-T"}, operands...)...)
			}
		}
	}
	for many := range len(all) + 1 {
		expect(t, cmd(api.CmdRm, "f", all[:many]...), append([]string{"rm", "-f"}, all[:many]...)...)
	}
}

func TestRmNeedsNoneWithF(t *testing.T) {
	expect(t, cmd(api.CmdRm, "f"), "rm", "-f")
	expect(t, cmd(api.CmdRm, "f"), "rm", "-f", "--")
	expect(t, cmd(api.CmdRm, "dfr"), "rm", "-r", "-f", "-d")
	expectTold(t, "rm: missing operand", "rm", "-r")
	expectTold(t, "rm: missing operand", "rm", "-dR", "--")
	// Of the other commands f asks for as many as there are to be without it.
	expectTold(t, "ln: missing operand", "ln", "-f")
	expectTold(t, "mv: missing operand", "mv", "-f")
	expectTold(t, "cp: missing operand", "cp", "-f")
	expectTold(t, `mv: missing destination operand after "a"`, "mv", "-f", "a")
}

func TestWhichFaultIsTold(t *testing.T) {
	// A letter that is none, ahead of operands that are too few or too many.
	expectTold(t, `mv: invalid option "x"`, "mv", "-x")
	expectTold(t, `mv: invalid option "x"`, "mv", "-x", "a")
	expectTold(t, `mv: invalid option "x"`, "mv", "-Tx", "a", "b", "c")
	expectTold(t, `mkdir: invalid option "f"`, "mkdir", "-f")
	// A name that is none, ahead of all of that.
	expectTold(t, `"mw": unknown command`, "mw", "-x", "a")
	// What would be a letter, behind the first operand or --, is none.
	expectTold(t, `mv: missing destination operand after "-x"`, "mv", "--", "-x")
	expect(t, cmd(api.CmdMv, "", "a", "-x"), "mv", "a", "-x")
	expectTold(t, `mv: extra operand "-x"`, "mv", "-T", "a", "b", "-x", "-y")
}

// P17.2: options

func TestEachOrderOfOptions(t *testing.T) {
	for _, k := range five() {
		eachOrder([]byte(k.options), func(letters string) {
			want := cmd(k.kind, optionsOf(k, letters), "a", "b")
			expect(t, want, k.name, "-"+letters, "a", "b")
			expect(t, want, k.name, "-"+letters+letters, "a", "b")
			expect(t, want, k.name, "-"+letters, "-"+letters, "--", "a", "b")
			argv := []string{k.name}
			for _, b := range []byte(letters) {
				argv = append(argv, "-"+string([]byte{b}))
			}
			expect(t, want, append(argv, "a", "b")...)
			for cut := 1; cut < len(letters); cut++ {
				expect(t, want, k.name, "-"+letters[:cut], "-"+letters[cut:], "a", "b")
			}
		})
	}
}

// eachOrder hands each order of the letters to do.
func eachOrder(letters []byte, do func(letters string)) {
	var from func(place int)
	from = func(place int) {
		if place == len(letters) {
			do(string(letters))
			return
		}
		for i := place; i < len(letters); i++ {
			letters[place], letters[i] = letters[i], letters[place]
			from(place + 1)
			letters[place], letters[i] = letters[i], letters[place]
		}
	}
	from(0)
}

func TestOptionsRise(t *testing.T) {
	expect(t, cmd(api.CmdCp, "PTfr", "a", "b"), "cp", "-rfTP", "a", "b")
	expect(t, cmd(api.CmdCp, "PTnr", "a", "b"), "cp", "-nrTP", "a", "b")
	expect(t, cmd(api.CmdLn, "Tfns", "a", "b"), "ln", "-snfT", "a", "b")
	expect(t, cmd(api.CmdRm, "dfr", "a"), "rm", "-rfd", "a")
	expect(t, cmd(api.CmdMv, "Tf", "a", "b"), "mv", "-fT", "a", "b")
}

func TestOptionsTwice(t *testing.T) {
	expect(t, cmd(api.CmdMkdir, "p", "a"), "mkdir", "-pp", "a")
	expect(t, cmd(api.CmdMkdir, "p", "a"), "mkdir", "-p", "-p", "a")
	expect(t, cmd(api.CmdRm, "dr", "a"), "rm", "-drdr", "-d", "-r", "a")
	expect(t, cmd(api.CmdMv, "T", "a", "b"), "mv", "-TT", "-T", "a", "b")
}

func TestGreatRCountsAsSmallR(t *testing.T) {
	for _, k := range []known{five()[1], five()[4]} {
		for _, words := range [][]string{{"-R"}, {"-r"}, {"-rR"}, {"-Rr"}, {"-RR"}, {"-R", "-r"}, {"-r", "-R"}} {
			argv := append([]string{k.name}, words...)
			expect(t, cmd(k.kind, "r", "a", "b"), append(argv, "a", "b")...)
		}
	}
	expect(t, cmd(api.CmdRm, "dfr", "a"), "rm", "-dRf", "a")
	for _, name := range []string{"mkdir", "ln", "mv"} {
		expectTold(t, name+`: invalid option "R"`, name, "-R", "a", "b")
		expectTold(t, name+`: invalid option "r"`, name, "-r", "a", "b")
	}
}

func TestLastOfFAndN(t *testing.T) {
	for _, k := range five()[3:] {
		for words, want := range map[string]string{
			"-fn": "n", "-nf": "f", "-fnf": "f", "-nfn": "n", "-ffn": "n", "-nnf": "f", "-f -n": "n", "-n -f": "f", "-fn -f": "f", "-n -f -n": "n",
			"-fTn": "Tn", "-n -T -f": "Tf", "-f": "f", "-n": "n", "-nT": "Tn", "-Tff": "Tf",
		} {
			argv := append([]string{k.name}, strings.Fields(words)...)
			expect(t, cmd(k.kind, want, "a", "b"), append(argv, "a", "b")...)
		}
	}
	expect(t, cmd(api.CmdCp, "PTnr", "a", "b"), "cp", "-fPRTn", "a", "b")
	// Behind -- and the first operand nothing counts any more.
	expect(t, cmd(api.CmdCp, "n", "-f", "b"), "cp", "-n", "--", "-f", "b")
	expect(t, cmd(api.CmdMv, "f", "a", "-n"), "mv", "-f", "a", "-n")
}

func TestBothFAndNOfLn(t *testing.T) {
	for _, words := range []string{"-fn", "-nf", "-f -n", "-n -f", "-fnf", "-nfn"} {
		argv := append([]string{"ln"}, strings.Fields(words)...)
		expect(t, cmd(api.CmdLn, "fn", "a", "b"), append(argv, "a", "b")...)
	}
	expect(t, cmd(api.CmdLn, "Tfns", "a", "b"), "ln", "-Tnsf", "a", "b")
}

// P17.3

func TestEndOfOptions(t *testing.T) {
	expect(t, cmd(api.CmdRm, "r", "a"), "rm", "-r", "--", "a")
	expect(t, cmd(api.CmdRm, "", "-r"), "rm", "--", "-r")
	expect(t, cmd(api.CmdRm, "", "--"), "rm", "--", "--")
	expect(t, cmd(api.CmdRm, "r", "--", "--"), "rm", "-r", "--", "--", "--")
	expect(t, cmd(api.CmdRm, "", "a", "--", "b"), "rm", "a", "--", "b")
	expect(t, cmd(api.CmdRm, "", "a", "--"), "rm", "--", "a", "--")
	expect(t, cmd(api.CmdRm, "", "--x"), "rm", "--", "--x")
	expect(t, cmd(api.CmdCp, "", "a", "--"), "cp", "a", "--")
	expect(t, cmd(api.CmdMv, "", "-x", "-y"), "mv", "--", "-x", "-y")
}

func TestWordsThatAreOperands(t *testing.T) {
	expect(t, cmd(api.CmdRm, "", "-"), "rm", "-")
	expect(t, cmd(api.CmdRm, "", "-", "-r"), "rm", "-", "-r")
	expect(t, cmd(api.CmdRm, "r", "-", "-x", "--"), "rm", "-r", "-", "-x", "--")
	expect(t, cmd(api.CmdRm, "", ""), "rm", "")
	expect(t, cmd(api.CmdRm, "", "", "-x"), "rm", "", "-x")
	expect(t, cmd(api.CmdCp, "", "", ""), "cp", "", "")
	expect(t, cmd(api.CmdMkdir, "p", "a", "-p", "-x", "--", "b"), "mkdir", "-p", "a", "-p", "-x", "--", "b")
	expect(t, cmd(api.CmdMkdir, "", "a", "-p"), "mkdir", "a", "-p")
	expect(t, cmd(api.CmdMkdir, "", " -p"), "mkdir", " -p")
	expect(t, cmd(api.CmdMkdir, "", "\u2013p"), "mkdir", "\u2013p")
	expect(t, cmd(api.CmdMkdir, "", "p-"), "mkdir", "p-")
	expect(t, cmd(api.CmdMkdir, "", "\xff\x00", "rm"), "mkdir", "\xff\x00", "rm")
}

func TestWordsThatBeginWithTheEnd(t *testing.T) {
	for _, k := range five() {
		for _, word := range []string{"--x", "---", "--" + k.options, "--help", "-- ", "--\x00"} {
			expectTold(t, k.name+`: invalid option "-"`, k.name, word, "a", "b")
		}
		expectTold(t, k.name+`: invalid option "-"`, k.name, "-"+k.options+"-", "a", "b")
	}
}

func TestAllLines(t *testing.T) {
	words := []string{"a", "", "-", "--", "-f", "-n", "-T", "-rR", "-fn", "-p", "-x", "-s\xff", "--f", "-d", "-P"}
	names := []string{"mkdir", "rm", "ln", "mv", "cp", "mw", ""}
	for _, name := range names {
		eachLine([]string{name}, words, 4, func(argv []string) {
			want, wantTold := straight(argv)
			c, told := Read(argv)
			if !same(c, want) || told != wantTold {
				t.Fatalf("Read(%q): %v and %q, not %v and %q", argv, c, told, want, wantTold)
			}
			if told == "" && (Name(c.Kind) != argv[0] || len(c.Operands) >= len(argv)) {
				t.Fatalf("Read(%q): %v", argv, c)
			}
		})
	}
}

// eachLine hands the words, and each of at most so many more, to do.
func eachLine(argv, words []string, more int, do func(argv []string)) {
	do(argv)
	if more == 0 {
		return
	}
	for _, word := range words {
		eachLine(append(slices.Clone(argv), word), words, more-1, do)
	}
}

func TestAllWordsOfLetters(t *testing.T) {
	for _, k := range five() {
		var letters []string
		for _, b := range []byte("prRdfnsTP-x") {
			letters = append(letters, string([]byte{b}))
		}
		eachLine(nil, letters, 4, func(parts []string) {
			argv := []string{k.name, "-" + strings.Join(parts, ""), "a", "b"}
			want, wantTold := straight(argv)
			c, told := Read(argv)
			if !same(c, want) || told != wantTold {
				t.Fatalf("Read(%q): %v and %q, not %v and %q", argv, c, told, want, wantTold)
			}
		})
	}
}

func TestLongLines(t *testing.T) {
	const many = 1 << 16
	letters := "-" + strings.Repeat("fn", many)
	expect(t, cmd(api.CmdCp, "n", "a", "b"), "cp", letters, "a", "b")
	expect(t, cmd(api.CmdCp, "f", "a", "b"), "cp", letters+"f", "a", "b")
	expectTold(t, `cp: invalid option "x"`, "cp", letters+"x", "a", "b")
	long := strings.Repeat("\xff", many)
	expectTold(t, `cp: missing destination operand after "`+strings.Repeat(`\xff`, many)+`"`, "cp", long)
	expectTold(t, `"`+strings.Repeat(`\xff`, many)+`": unknown command`, long)
	argv := []string{"rm"}
	for range many {
		argv = append(argv, "-r")
	}
	expectTold(t, "rm: missing operand", argv...)
	var operands []string
	for i := range many {
		operands = append(operands, fmt.Sprint(i))
	}
	expect(t, cmd(api.CmdRm, "r", operands...), append(argv, operands...)...)
}

// P17.4

// lines answers argvs of commands, and of none.
func lines() [][]string {
	return [][]string{
		{"cp", "-rf", "--", "first", "second"},
		{"rm", "-f"},
		{"mkdir", "first", "-p", ""},
		{"ln", "-T", "first", "second", "third"},
		{"mv", "-f", "-n", "first"},
		{"mv", "-n", "--", "first", "second"},
		{"rm", "-xy", "first"},
		{"unknown", "-x"},
		{},
	}
}

func TestHandedInStays(t *testing.T) {
	for _, line := range lines() {
		whole := append(slices.Clone(line), "-r", "behind", "--")
		before := slices.Clone(whole)
		argv := whole[:len(line)]
		want, wantTold := straight(line)
		c, told := Read(argv)
		if !same(c, want) || told != wantTold {
			t.Errorf("Read(%q), with room behind it: %v and %q, not %v and %q", line, c, told, want, wantTold)
		}
		Has(c, 'f')
		if !slices.Equal(whole, before) {
			t.Errorf("handed in: %q, not %q", whole, before)
		}
	}
	c := cmd(api.CmdCp, "fr", "a", "b")
	Has(c, 'r')
	Has(c, 'R')
	if !same(c, cmd(api.CmdCp, "fr", "a", "b")) {
		t.Errorf("handed in: %v", c)
	}
}

func TestWhatWasAnsweredStays(t *testing.T) {
	for _, line := range lines() {
		want, wantTold := straight(line)
		argv := append(slices.Clone(line), "behind", "behind")[:len(line)]
		c, told := Read(argv)
		again, _ := Read(argv)
		// The list that was handed in is written over.
		for i := range argv[:cap(argv)] {
			argv[:cap(argv)][i] = "over"
		}
		if !same(c, want) || told != wantTold {
			t.Errorf("what was handed in written over: %v and %q, not %v and %q", c, told, want, wantTold)
		}
		// And the other way round: one answer is written over.
		argv = append(slices.Clone(line), "behind")[:len(line)]
		whole := slices.Clone(argv[:cap(argv)])
		other, _ := Read(argv)
		for i := range other.Operands[:cap(other.Operands)] {
			other.Operands[:cap(other.Operands)][i] = "over"
		}
		if !slices.Equal(argv[:cap(argv)], whole) {
			t.Errorf("an answer written over: %q, not %q", argv[:cap(argv)], whole)
		}
		if next, _ := Read(argv); !same(again, want) || !same(next, want) {
			t.Errorf("an answer written over: %v and %v, not %v", again, next, want)
		}
	}
}

// shares tells whether two texts have memory in common.
func shares(a, b string) bool {
	if a == "" || b == "" {
		return false
	}
	x, y := uintptr(unsafe.Pointer(unsafe.StringData(a))), uintptr(unsafe.Pointer(unsafe.StringData(b)))
	return x < y+uintptr(len(b)) && y < x+uintptr(len(a))
}

func TestTextsAreNew(t *testing.T) {
	for _, line := range lines() {
		var argv []string
		for _, word := range line {
			argv = append(argv, strings.Clone(word))
		}
		c, told := Read(argv)
		again, toldAgain := Read(argv)
		others := append(slices.Clone(argv), toldAgain)
		others = append(others, again.Operands...)
		for _, text := range append(slices.Clone(c.Operands), told) {
			for _, other := range others {
				if shares(text, other) {
					t.Errorf("Read(%q): %q shares memory with %q", line, text, other)
				}
			}
		}
	}
	for _, k := range five() {
		if shares(Name(k.kind), Name(k.kind)) {
			t.Errorf("Name(%d) shares memory with another answer", k.kind)
		}
	}
}

// The rules that hold everywhere

func TestTheSameAgain(t *testing.T) {
	for _, line := range lines() {
		want, wantTold := straight(line)
		for range 20 {
			if c, told := Read(line); !same(c, want) || told != wantTold {
				t.Fatalf("Read(%q): another answer than the one ahead: %v and %q", line, c, told)
			}
		}
	}
}
