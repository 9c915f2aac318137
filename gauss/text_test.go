package gauss_test

import (
	"fmt"
	"regexp"
	"strconv"
	"strings"
	"testing"

	"forebay/api"
	"forebay/gauss"
)

// known are right values with their texts.
var known = []struct {
	v    api.Val
	text string
}{
	{api.Val{}, "0+0i"},
	{api.Val{Re: 3}, "3+0i"},
	{api.Val{Im: 3}, "0+3i"},
	{api.Val{Re: -3}, "-3+0i"},
	{api.Val{Im: -3}, "0-3i"},
	{api.Val{Re: 1, Im: 2}, "1+2i"},
	{api.Val{Re: 3, Im: -1}, "3-1i"},
	{api.Val{Re: -1, Im: 1}, "-1+1i"},
	{api.Val{Re: -10, Im: -200}, "-10-200i"},
	{api.Val{Re: 100, Im: 1000}, "100+1000i"},
	{api.Val{Re: most, Im: most}, "524287+524287i"},
	{api.Val{Re: least, Im: least}, "-524288-524288i"},
	{api.Val{Re: most, Im: least}, "524287-524288i"},
	{api.Val{Re: least, Im: most}, "-524288+524287i"},
}

// form is how a text looks; "-0" is refused beside it.
var form = regexp.MustCompile(`^(0|-?[1-9][0-9]{0,5})([+-])(0|[1-9][0-9]{0,5})i$`)

// valueOf is the value of a text, told by its form.
func valueOf(s string) (api.Val, api.Errno) {
	m := form.FindStringSubmatch(s)
	if m == nil || m[2]+m[3] == "-0" {
		return api.Val{}, api.ErrForm
	}
	re, _ := strconv.Atoi(m[1])
	im, _ := strconv.Atoi(m[3])
	if m[2] == "-" {
		im = -im
	}
	if re < least || re > most || im < least || im > most {
		return api.Val{}, api.ErrForm
	}
	return api.Val{Re: re, Im: im}, api.OK
}

func wantParsed(t *testing.T, s string, v api.Val, e api.Errno) {
	t.Helper()
	if got, gotE := gauss.Parse(s); got != v || gotE != e {
		t.Fatalf("%.60q: %d with error %d, not %d with %d", s, got, gotE, v, e)
	}
}

func TestTextKnown(t *testing.T) {
	for _, x := range known {
		if got := gauss.Text(x.v); got != x.text {
			t.Errorf("the text of %d is %q, not %q", x.v, got, x.text)
		}
		wantParsed(t, x.text, x.v, api.OK)
	}
}

func TestTextParsed(t *testing.T) {
	l := rights(5000, 9)
	for _, re := range parts {
		for _, im := range parts {
			l = append(l, api.Val{Re: re, Im: im})
		}
	}
	for _, v := range l {
		s := gauss.Text(v)
		if want := fmt.Sprintf("%d%+di", v.Re, v.Im); s != want {
			t.Fatalf("the text of %d is %q, not %q", v, s, want)
		}
		wantParsed(t, s, v, api.OK)
	}
}

func TestTextNotRight(t *testing.T) {
	for _, x := range wrongs() {
		if got, want := gauss.Text(x[0]), gauss.Text(x[1]); got != want {
			t.Errorf("the text of %d is %q, not %q", x[0], got, want)
		}
		// What isn't right has no text of its own.
		wantParsed(t, fmt.Sprintf("%d%+di", x[0].Re, x[0].Im), api.Val{}, api.ErrForm)
	}
}

func TestParseWrong(t *testing.T) {
	for _, s := range []string{
		"", "i", "0", "0i", "3", "-3", "3i", "+", "-", "+i", "-i", "+-i", "1+i", "1-i", "+1i", "-1i", "1+", "1-", "1+2",
		"3-0i", "-0+0i", "-0-0i", "-0+1i", "0-0i", "+0+0i", "+3+0i", "+3-1i",
		"00+0i", "03+0i", "3+00i", "3+01i", "3-01i", "-03+1i", "0x3+0i", "3+0x1i", "1_0+0i", "3+1_0i", "1e1+0i", "1.0+0i",
		"3++1i", "3+-1i", "3-+1i", "3--1i", "--3+1i", "-+3+1i", "+-3+1i", "1+2+3i", "1-2-3i", "-1-2-3i", "1+2i+3i", "1+2i3+4i",
		" 3+0i", "3+0i ", "3 +0i", "3+ 0i", "3+0 i", "3+0i\n", "\t3+0i", "3+0i\x00", "\x003+0i",
		"3+0I", "3+0j", "3+0", "3+0ii", "i3+0i", "3+i0", "3i+0", "3*0i", "3+0i+", "3+0i-", "3+0i-0i",
		"524288+0i", "0+524288i", "-524289+0i", "0-524289i", "524288+524288i", "-524289-524289i", "1048576+0i", "0+1048577i",
		"4294967296+0i", "9223372036854775807+0i", "-9223372036854775808+0i", "9223372036854775808+0i", "0-9223372036854775808i", "0-9223372036854775809i", "18446744073709551616+0i", "0+18446744073709551617i", "99999999999999999999999+1i",
		"٣+0i", "3+٣i", "3−1i", "3＋1i", "３+1i", "3+0і", "\xff+0i", "3+\xffi",
		"3+0", "NaN+0i", "Inf+0i", "(3+0i)", "3,0", "a+bi",
	} {
		if _, e := valueOf(s); e != api.ErrForm {
			t.Fatalf("%q is a text", s)
		}
		wantParsed(t, s, api.Val{}, api.ErrForm)
	}
}

// TestParseAnyByte: a byte more, a byte less and another byte in a text leave a text of another value, or none.
func TestParseAnyByte(t *testing.T) {
	refused, taken := 0, 0
	try := func(s string) {
		v, e := valueOf(s)
		wantParsed(t, s, v, e)
		if e == api.OK {
			taken++
			return
		}
		refused++
	}
	for _, x := range known {
		s := x.text
		for i := range len(s) + 1 {
			for b := range 256 {
				try(s[:i] + string([]byte{byte(b)}) + s[i:])
				if i < len(s) {
					try(s[:i] + string([]byte{byte(b)}) + s[i+1:])
				}
			}
			if i < len(s) {
				try(s[:i] + s[i+1:])
			}
			try(s[:i])
			try(s[i:])
		}
	}
	if refused == 0 || taken == 0 {
		t.Fatal(refused, taken)
	}
}

// TestParseAllShort: all texts of up to six letters of those that texts have.
func TestParseAllShort(t *testing.T) {
	letters := "01+-i"
	l := []string{""}
	for range 6 {
		var longer []string
		for _, s := range l {
			for _, c := range letters {
				longer = append(longer, s+string(c))
			}
		}
		for _, s := range longer {
			v, e := valueOf(s)
			wantParsed(t, s, v, e)
		}
		l = longer
	}
}

func TestParseLong(t *testing.T) {
	for _, x := range []string{"0", "1", "+", "-", "i", "1+", "0+0i"} {
		many := strings.Repeat(x, 1<<20)
		for _, s := range []string{many, many + "+0i", "0+" + many + "i", many + "i", "3+0i" + many, "-" + many + "-1i"} {
			wantParsed(t, s, api.Val{}, api.ErrForm)
		}
	}
}
