package code_test

import (
	"fmt"
	"regexp"
	"slices"
	"strconv"
	"strings"
	"testing"

	"forebay/api"
	"forebay/code"
)

// known are programs with their words.
var known = []struct {
	p    []api.Instr
	text string
}{
	{nil, ""},
	{[]api.Instr{{}}, "HALT"},
	{[]api.Instr{{Op: 3}, {Op: 14}}, "IN; EMIT"},
	{[]api.Instr{{Op: 1, A: 0}}, "PUSH 0"},
	{[]api.Instr{{Op: 1, A: -524288}, {Op: 2, A: 524287}}, "PUSH -524288; PUSHI 524287"},
	{[]api.Instr{{Op: 2, A: -7}, {Op: 1, A: 42}, {Op: 6}}, "PUSHI -7; PUSH 42; ADD"},
	{[]api.Instr{{Op: 4, A: 0}, {Op: 4, A: 1}, {Op: 7}, {Op: 5, A: 0}}, "LOAD 0; LOAD 1; SUB; STORE 0"},
	{[]api.Instr{{Op: 3}, {Op: 11}, {Op: 8}, {Op: 9}, {Op: 10}, {Op: 5, A: 1}}, "IN; DUP; MUL; CONJ; TURN; STORE 1"},
	{[]api.Instr{{Op: 3}, {Op: 11}, {Op: 12}, {Op: 13}, {Op: 15, A: 24}, {Op: 16, A: 1}, {Op: 17}}, "IN; DUP; SWAP; DROP; JZ 24; JMP 1; LT"},
}

// instruction is how an instruction's words look.
var instruction = regexp.MustCompile(`^([A-Z]+)(?: (0|-?[1-9][0-9]{0,5}))?$`)

// programOf is the program of words, told by their form.
func programOf(s string) ([]api.Instr, api.Errno) {
	if s == "" {
		return nil, api.OK
	}
	l := strings.Split(s, "; ")
	if len(l) > 24 {
		return nil, api.ErrForm
	}
	var p []api.Instr
	for _, words := range l {
		m := instruction.FindStringSubmatch(words)
		if m == nil {
			return nil, api.ErrForm
		}
		i := api.Instr{Op: -1}
		for _, x := range operations {
			if x.name == m[1] {
				i.Op = x.op
			}
		}
		if i.Op < 0 || (operations[i.Op].most > 0) != (m[2] != "") {
			return nil, api.ErrForm
		}
		i.A, _ = strconv.Atoi(m[2])
		if i.A < operations[i.Op].least || i.A > operations[i.Op].most {
			return nil, api.ErrForm
		}
		p = append(p, i)
	}
	return p, api.OK
}

// wordsOf are a program's words, reckoned in another way.
func wordsOf(p []api.Instr) string {
	s := ""
	for k, i := range p {
		if k > 0 {
			s += "; "
		}
		s += operations[i.Op].name
		if operations[i.Op].most > 0 {
			s += fmt.Sprintf(" %d", i.A)
		}
	}
	return s
}

func wantParsed(t *testing.T, s string, p []api.Instr, e api.Errno) {
	t.Helper()
	got, gotE := code.Parse(s)
	if !slices.Equal(got, p) || gotE != e {
		t.Fatalf("%.200q: %d with error %d, not %d with %d", s, got, gotE, p, e)
	}
}

func TestTextKnown(t *testing.T) {
	for _, x := range known {
		if got := code.Text(x.p); got != x.text {
			t.Errorf("the words of %d are %q, not %q", x.p, got, x.text)
		}
		wantParsed(t, x.text, x.p, api.OK)
	}
}

func TestTextParsed(t *testing.T) {
	for _, p := range fitting() {
		kept := slices.Clone(p)
		s := code.Text(p)
		if want := wordsOf(p); s != want {
			t.Fatalf("the words of %d are %q, not %q", p, s, want)
		}
		if !slices.Equal(p, kept) {
			t.Fatalf("%d was written into", kept)
		}
		wantParsed(t, s, p, api.OK)
	}
}

func TestTextUnfit(t *testing.T) {
	for _, p := range unfit() {
		kept := slices.Clone(p)
		if s := code.Text(p); s != "" {
			t.Errorf("the words of %d instructions that don't fit are %q", len(p), s)
		}
		if !slices.Equal(p, kept) {
			t.Fatalf("%d instructions were written into", len(kept))
		}
	}
}

// TestParseNotRight: what isn't right has no words of its own.
func TestParseNotRight(t *testing.T) {
	for _, i := range wrongs() {
		if i.Op < 0 || i.Op >= len(operations) {
			continue
		}
		for _, a := range []int{i.A, -i.A} {
			if code.Right(api.Instr{Op: i.Op, A: a}) {
				continue
			}
			s := fmt.Sprintf("%s %d", operations[i.Op].name, a)
			for _, s := range []string{s, "IN; " + s, s + "; EMIT", "IN; " + s + "; EMIT"} {
				wantParsed(t, s, nil, api.ErrForm)
			}
		}
	}
}

// TestParseNumbers: a number that is missing, and one that there is no need of, of each operation.
func TestParseNumbers(t *testing.T) {
	for _, x := range operations {
		l := []string{x.name + " ", x.name + " -", x.name + " +1", x.name + " 01", x.name + " 00", x.name + " -0", x.name + " 1 1", x.name + " 0 0", x.name + " 1 ", x.name + "  1", x.name + "1", x.name + "0", x.name + " IN", x.name + " 1.0", x.name + " 0x1", x.name + " 1_0", x.name + " 1e0", x.name + " ١", x.name + ";1", x.name + ", 1", x.name + "\t1", x.name + "; 1", x.name + "-1", x.name + " - 1", x.name + " --1", x.name + " 99999999999999999999", x.name + " 18446744073709551617"}
		if x.most > 0 {
			l = append(l, x.name)
		} else {
			l = append(l, x.name+" 0", x.name+" 1", x.name+" -1", x.name+" 24")
		}
		for _, s := range l {
			for _, s := range []string{s, "IN; " + s, s + "; EMIT", "IN; " + s + "; EMIT"} {
				wantParsed(t, s, nil, api.ErrForm)
			}
		}
	}
}

// TestParseNames: names that there are not.
func TestParseNames(t *testing.T) {
	l := []string{"", " ", ";", "; ", "NOP", "OUT", "INC", "I", "N", "INN", "EMIT2", "PUSHR", "PUS", "PUSHII", "JNZ", "JM", "J", "GT", "L", "-", "0", "3", "14", "-1", "18", "\x00", "\n", "ΙΝ", "IN\u00a0", "\ufeffIN", "\xff"}
	for _, x := range operations {
		l = append(l, strings.ToLower(x.name), x.name[:1]+strings.ToLower(x.name[1:]), strings.ToLower(x.name[:1])+x.name[1:], x.name+"\x00", "\x00"+x.name, x.name+"\n", x.name+"_", "_"+x.name, x.name+x.name, x.name[1:], x.name[:len(x.name)-1], "("+x.name+")", x.name+":", x.name+".")
	}
	for _, name := range l {
		// PUSH is a name, and a piece of another one.
		if name == "PUSH" {
			continue
		}
		for _, s := range []string{name, name + " 1", "IN; " + name, name + "; EMIT", name + " 1; EMIT", "IN; " + name + "; EMIT", "IN; " + name + " 1; EMIT"} {
			if s != "" {
				wantParsed(t, s, nil, api.ErrForm)
			}
		}
	}
}

// TestParseParting: a blank or ";" too few or too many, ahead, between and behind.
func TestParseParting(t *testing.T) {
	for _, s := range []string{
		" ", ";", "; ", ";;", " ;", "  ",
		" IN", "IN ", ";IN", "IN;", "; IN", "IN; ", "IN ;", "  IN", "IN  ", "IN;;", "IN; ;", "\tIN", "IN\n", "IN\r\n",
		" IN; EMIT", "IN; EMIT ", ";IN; EMIT", "IN; EMIT;", "; IN; EMIT", "IN; EMIT; ", "IN; EMIT ;",
		"IN;EMIT", "IN EMIT", "INEMIT", "IN ;EMIT", "IN ; EMIT", "IN;  EMIT", "IN; ; EMIT", "IN;; EMIT", "IN;;EMIT", "IN  EMIT", "IN;\tEMIT", "IN;\nEMIT", "IN, EMIT", "IN,EMIT", "IN: EMIT", "IN; EMIT\x00",
		"PUSH 1; ", "PUSH 1;", " PUSH 1", "PUSH 1 ", "PUSH  1", "PUSH; 1", "PUSH ;1", "PUSH 1 ;", "PUSH 1;; IN", "PUSH 1;IN", "PUSH 1 IN", "PUSH 1IN", "PUSH 1  ; IN", "PUSH 1 ; IN", "PUSH 1;  IN", "PUSH 1 1; IN", "PUSH; IN", "PUSH ; IN", "PUSH  ; IN", "PUSH IN", "PUSH 1; PUSH", "PUSH 1; PUSH ", "PUSH PUSH 1", "PUSH 1 PUSH 1", "1 PUSH", "1; PUSH", "PUSH\n1",
	} {
		wantParsed(t, s, nil, api.ErrForm)
	}
}

// TestParseAnyByte: a byte more, a byte less and another byte in words leave the words of another program, or none.
func TestParseAnyByte(t *testing.T) {
	refused, taken := 0, 0
	try := func(s string) {
		p, e := programOf(s)
		wantParsed(t, s, p, e)
		if e == api.OK {
			taken++
			return
		}
		refused++
	}
	for _, x := range known {
		s := x.text
		for i := range len(s) + 1 {
			for b := range 256 {
				try(s[:i] + string([]byte{byte(b)}) + s[i:])
				if i < len(s) {
					try(s[:i] + string([]byte{byte(b)}) + s[i+1:])
				}
			}
			if i < len(s) {
				try(s[:i] + s[i+1:])
			}
			try(s[:i])
			try(s[i:])
		}
	}
	if refused == 0 || taken == 0 {
		t.Fatal(refused, taken)
	}
}

// TestParseAllShort: all texts of up to six of the pieces that words are made of.
func TestParseAllShort(t *testing.T) {
	pieces := []string{"IN", "PUSH", "JZ", ";", " ", "1", "-"}
	l := []string{""}
	taken := 0
	for range 6 {
		var longer []string
		for _, s := range l {
			for _, c := range pieces {
				longer = append(longer, s+c)
			}
		}
		for _, s := range longer {
			p, e := programOf(s)
			wantParsed(t, s, p, e)
			if e == api.OK {
				taken++
			}
		}
		l = longer
	}
	if taken == 0 {
		t.Fatal("none is a program")
	}
}

func TestParseHowMany(t *testing.T) {
	for n := range 30 {
		for _, i := range rights() {
			p := slices.Repeat([]api.Instr{i}, n)
			s := wordsOf(p)
			if n > 24 {
				wantParsed(t, s, nil, api.ErrForm)
				continue
			}
			wantParsed(t, s, p, api.OK)
		}
	}
	full := wordsOf(some(24, 5))
	for _, behind := range []string{" ", ";", "; ", "; IN", "; PUSH 1", "; NOP", " IN", "; ;", "; IN; EMIT", " 1"} {
		wantParsed(t, full+behind, nil, api.ErrForm)
	}
}

func TestParseLong(t *testing.T) {
	for _, x := range []string{"I", "IN", "1", " ", ";", "; ", "IN; ", "PUSH 1; ", "0", "-", "PUSH ", "\x00"} {
		many := strings.Repeat(x, 1<<20)
		for _, s := range []string{many, "IN; " + many, many + "; EMIT", "PUSH " + many, "PUSH 1" + many, "PUSH 1; " + many} {
			wantParsed(t, s, nil, api.ErrForm)
		}
	}
}

// TestParseNew: what is answered is memory of its own.
func TestParseNew(t *testing.T) {
	a, _ := code.Parse("IN; EMIT")
	a[0], a[1] = api.Instr{Op: code.Lt}, api.Instr{Op: code.Lt}
	wantParsed(t, "IN; EMIT", []api.Instr{{Op: code.In}, {Op: code.Emit}}, api.OK)
}
