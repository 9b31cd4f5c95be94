package coast_test

import (
	"strconv"
	"strings"
	"testing"

	"lagan/api"
	"lagan/coast"
)

// P10.1, K9: the chapter's examples.
func TestRunExamples(t *testing.T) {
	plays(t, `
records 0
> none
setup 2 4000 4
sea 2 1
heights 0 0
tide 0 0
loss 1 0 0 1 1 0 0
> ok
tell 0 paper package 1 1 0 ab oil 40 60 2 7
tell 0 paper void 5
tell 0 paper void 5
> number 1
> number 2
> error 6
tell 0 paper package 1 1 0 ab oil 40 60 2 7
tell 0 posting sale 60 1 5 0
tell 0 nonsense
> number 3
> error 8
> error 90
pass 5
tell 1 report 3 found 1 a? oil 10 20 4
books 1
ask 1 at 5 weight 60
> ok
> number 1
> books 0 0 1 0 0 0 0
> answer 1 10 20
send 0 1
carry 0 1 0
carry 1 0 0
carry 0 1 0
carry 1 0 0
carry 0 1 0
> ok
> ok
> ok
> ok
> ok
> ok
books 1
ask 1 at 5 may 60 1 1
> books 3 0 1 0 0 0 0
> answer 1
`)
}

// P10.1, K9: what each line prints.
func TestRunPrints(t *testing.T) {
	plays(t, begin+`
> ok
# setup 2 4000 4

#
tell 0 paper package 1 1 0 ab oil 40 60 2 7
tell 0 rate rate 0 all 1 5 0 0
pass 5
tell 1 report 3 found 1 a? oil 10 20 4
> number 1
> number 2
> ok
> number 1
send 1 0
repeat 1 0 0
lose 1 0 0
lose 1 0 1
carry 1 0 0
carry 0 1 0
carry 1 0 0
carry 0 1 0
carry 1 0 0
carry 0 1 0
carry 0 1 0
> ok
> ok
> ok
> error 5
> ok
> ok
> ok
> ok
> ok
> ok
> error 5
records 0
records 1
records 2
> records 3
> 0 1 0 paper package 1 1 0 ab oil 40 60 2 7
> 0 2 0 rate rate 0 all 1 5 0 0
> 1 1 5 report 3 found 1 a? oil 10 20 4
> records 3
> 0 1 0 paper package 1 1 0 ab oil 40 60 2 7
> 0 2 0 rate rate 0 all 1 5 0 0
> 1 1 5 report 3 found 1 a? oil 10 20 4
> error 1
pass 20
tell 0 sale 20 sale 60 100 0 0 0
due 0 60
due 1 60
settle
settle
held 0
has 0 7 60
has 0 41 60
has 9 7 60
due 0 60
due 0 70
> ok
> number 3
> due 2
> 4 20
> 7 80
> error 61
> number 3
> number 0
> held 0
> has 80
> error 1
> error 1
> due 2
> 4 20
> 7 80
> error 30
books 0
books 1
books 3
> books 1 0 1 0 1 1 3
> books 1 0 1 0 1 0 0
> error 1
ask 0 at 20 due 60 20
ask 0 at 20 title 1 1 20
ask 0 at 20 due 70 20
ask 0 at 20
ask 7 at 20 assign
> answer 1 4 20 7 80
> answer 7 1 1
> error 30
> error 4
> error 1
audit 0 at 20 due 60 20 = 1 4 20 7 80 | 0 | 1 0
audit 0 at 20 due 60 20 = 1 4 20 7 81 | 0 | 1 0
audit 0 at 20 due 60 20
audit 1 at 20 due 60 20 = 1 4 20 7 80 | 0 | 1 0
> ok
> error 91
> error 4
> error 61
pass 4
pass 1000001
pass 999999999
stop 0 0
tell 0 rate void 10
stop 0 1
send 0 1
carry 1 0 0
settle
crash 0 64 0 -1 -999999999 999999999
settle
crash 0
crash 1
crash 9
held 2
held 1
> error 7
> error 1
> error 1
> ok
> error 80
> error 80
> error 80
> error 5
> error 80
> ok
> number 0
> ok
> ok
> error 1
> error 1
> held 0
`)
}

// P10.1, K9: a setup takes the lines behind it, whatever they contain; one that fails leaves the coast that there is.
func TestRunSetup(t *testing.T) {
	plays(t, `
setup 2 4000 0
setup 2 4000 1
records 0
records 0
> error 4
> error 4
> none
`+begin+`
pass 7
> ok
> ok
setup 6 4000 2
pass 8
 no form at all
setup 2 999 1
setup 1 1 9
setup 2 4000 3

# a comment of the season
setup 2 4000 0
pass 6
> error 1
> error 1
> error 4
> error 7
setup 3 1000 6

# a comment of the season
sea 2 1
heights 0 0
tide 0 0
loss 1 0 0 1 1 0 0
pass 6
records 2
> ok
> ok
> records 0
`)
	// The last line of the season may lack its line feed, as any last line may.
	for _, script := range []string{begin, strings.TrimSuffix(begin, "\n")} {
		if out, wrong, e := coast.Run(script); out != "ok\n" || wrong != 0 || e != api.OK {
			t.Errorf("Run of %q: %q, %d, error %d", script, out, wrong, e)
		}
	}
	for script, want := range map[string]string{"setup 2 4000 1\n\n": "error 4\n", "setup 2 4000 2\n\n#": "error 4\n", "setup 2 4000 0": "error 4\n", "": "", "\n": "", "\n\n#\n": "", "#": ""} {
		if out, wrong, e := coast.Run(script); out != want || wrong != 0 || e != api.OK {
			t.Errorf("Run of %q: %q, %d, error %d", script, out, wrong, e)
		}
	}
}

// P10.1, K9: without a coast all lines but a setup do nothing.
func TestRunNone(t *testing.T) {
	for _, line := range goodLines() {
		for _, script := range []string{line, line + "\n", "\n#\n" + line} {
			if out, wrong, e := coast.Run(script); out != "none\n" || wrong != 0 || e != api.OK {
				t.Errorf("Run of %q: %q, %d, error %d", script, out, wrong, e)
			}
		}
	}
}

// goodLines are lines of all forms but that of a setup.
func goodLines() []string {
	return []string{
		"pass 0", "pass 999999999", "tell 0 x", "tell 0  ", "tell 0  x y  z ", "tell 999999999 \t\x00\xff", "settle", "send 0 1", "carry 0 1 2", "lose 0 1 2", "repeat 0 1 2",
		"stop 0 1", "crash 0", "crash 0 1", "crash 0 -1 0 999999999 -999999999", "records 0", "books 0", "ask 0 x", "ask 0 at 5 assign", "audit 0  ", "audit 0 at 5 assign = 1 |",
		"due 0 60", "held 0", "has 0 7 60",
	}
}

// P10.1, K9: a line that has no form: its number, and nothing is printed.
func TestRunForms(t *testing.T) {
	bad := []string{
		" ", "x", "Pass 5", "pass", "pass ", "pass  5", " pass 5", "pass 5 ", "pass 5 6", "pass -5", "pass +5", "pass 05", "pass 00", "pass -0", "pass 1000000000", "pass 5x", "pass x", "pass 0x5", "pass 5\r", "pass\t5", "pass 1_0",
		"pass 99999999999999999999", "pass \xff", "pass ５",
		"tell", "tell 0", "tell 0 ", "tell  x", "tell x y", "tell -1 x", "tell 00 x", "tell  0 x", "settle ", "settle 0", "settle x",
		"send", "send 0", "send 0 ", "send 0 1 ", "send 0 1 2", "send 0  1", "send 0 -1", "carry 0 1", "carry 0 1 2 3", "carry 0 1 -2", "lose 0 1", "lose 0 1 2 3", "repeat 0 1", "repeat 0 1 2 3", "repeat 0 1 x",
		"stop 0", "stop 0 1 2", "stop 0 -1", "crash", "crash ", "crash -1", "crash 0 ", "crash 0  1", "crash 0 -0", "crash 0 -", "crash 0 --1", "crash 0 -01", "crash 0 01", "crash 0 1000000000", "crash 0 -1000000000", "crash 0 +1", "crash 0 1 x",
		"records", "records 0 0", "records -1", "books", "books 0 0", "ask", "ask 0", "ask 0 ", "ask x y", "audit", "audit 0", "audit 0 ", "audit -1 x",
		"due", "due 0", "due 0 60 1", "due 0 -60", "held", "held 0 0", "has 0 7", "has 0 7 60 1", "has 0 -7 60",
		"setup", "setup 2", "setup 2 4000", "setup 2 4000 ", "setup 2 4000 0 0", "setup 2 4000 -1", "setup 2 4000 00", "setup 2 4000 0 ", "setup 2 4000 4000", "setup 2 4000 999999999", "setup 2 4000 1000000000",
		"  # no comment", "settles", "none", "ok",
	}
	before := begin + "settle\n# comment\n\n" // 8 lines
	for _, line := range bad {
		for script, want := range map[string]int{
			line: 1, line + "\n": 1, "\n" + line: 2, before + line: 9, before + line + "\nsettle\nx\n": 9,
			before + "x\n" + line + "\n": 9, begin + "settle\nsetup 2 4000 2\nx\n \n" + line: 10,
		} {
			if out, wrong, e := coast.Run(script); out != "" || wrong != want || e != api.ErrForm {
				t.Errorf("Run of %q: %q, %d, error %d, want %d", script, out, wrong, e, want)
			}
		}
	}
	// It is the setup that has no form if lines of the season are missing, not what is behind it.
	for script, want := range map[string]int{"setup 2 4000 1": 1, "setup 2 4000 1\n": 1, "settle\nsetup 2 4000 2\nx\n": 2, "setup 2 4000 3\n\n\n": 1, "setup 2 4000 1\nsetup 2 4000 1\nx\nsettle": 3} {
		if out, wrong, e := coast.Run(script); out != "" || wrong != want || e != api.ErrForm {
			t.Errorf("Run of %q: %q, %d, error %d, want %d", script, out, wrong, e, want)
		}
	}
}

// P10.1, K9: a script with more than 20000 bytes.
func TestRunLimit(t *testing.T) {
	longest := begin + strings.Repeat("#", 20000-len(begin))
	if out, wrong, e := coast.Run(longest); out != "ok\n" || wrong != 0 || e != api.OK {
		t.Errorf("Run: %q, %d, error %d", out, wrong, e)
	}
	for _, script := range []string{longest + "\n", longest + "#", "x\n" + longest} {
		if out, wrong, e := coast.Run(script); out != "" || wrong != 0 || e != api.ErrLimit {
			t.Errorf("Run: %q, %d, error %d", out, wrong, e)
		}
	}
}

// P10.8: a script whose first lines are those of another one prints what that one prints first; and scripts do not know
// of each other.
func TestRunBegins(t *testing.T) {
	lines := strings.Split(begin+"tell 0 rate rate 0 all 1 5 0 0\npass 5\nsend 0 1\ncarry 0 1 0\ncarry 1 0 0\ncarry 0 1 0\nrecords 1\n"+begin+"records 1\nsettle\nask 0 at 5 assign\n", "\n")
	all, _, _ := coast.Run(strings.Join(lines, "\n"))
	for i := range lines {
		if i > 0 && i < 5 || i > 12 && i < 17 {
			continue // within a setup
		}
		out, wrong, e := coast.Run(strings.Join(lines[:i], "\n"))
		if !strings.HasPrefix(all, out) || wrong != 0 || e != api.OK {
			t.Errorf("Run of %d lines: %q, %d, error %d", i, out, wrong, e)
		}
	}
	if want := "ok\nnumber 1\nok\nok\nok\nok\nok\nrecords 1\n0 1 0 rate rate 0 all 1 5 0 0\nok\nrecords 0\nnumber 0\nanswer 1\n"; all != want {
		t.Errorf("Run: %q, want %q", all, want)
	}
}

// P10.1, K9: many lines.
func TestRunLong(t *testing.T) {
	t.Parallel()
	var script, want strings.Builder
	script.WriteString(begin)
	want.WriteString("ok\n")
	for i := range 300 {
		script.WriteString("tell 0 paper package 1 " + strconv.Itoa(1+i%200) + " 0 a? oil 1 9 2 7\n")
		want.WriteString("number " + strconv.Itoa(i+1) + "\n")
	}
	script.WriteString("tell 0 paper void 5\nbooks 0\n")
	want.WriteString("error 2\nbooks 300 0 0 0 0 0 0\n")
	if out, wrong, e := coast.Run(script.String()); out != want.String() || wrong != 0 || e != api.OK {
		t.Errorf("Run: %q, %d, error %d", out, wrong, e)
	}
}
