package topic

import (
	"slices"
	"strings"
	"testing"

	"bellman/api"
)

// allTexts calls f with each text of at most longest bytes that are among these.
func allTexts(bytes string, longest int, f func(s string)) {
	var grow func(s string)
	grow = func(s string) {
		f(s)
		if len(s) == longest {
			return
		}
		for i := range len(bytes) {
			grow(s + bytes[i:i+1])
		}
	}
	grow("")
}

// told gathers what Each tells, and holds each place against its count.
func told(t *testing.T, s string) []string {
	t.Helper()
	var l []string
	for place, level := range Each(s) {
		if place != len(l) {
			t.Fatalf("Each(%q): place %d, want %d", s, place, len(l))
		}
		l = append(l, level)
	}
	return l
}

// P1.1: Levels, Each and Depth, at texts of all kinds.
func TestLevels(t *testing.T) {
	for _, x := range []struct {
		s    string
		want []string
	}{
		{"", []string{""}},
		{"a", []string{"a"}},
		{"/", []string{"", ""}},
		{"//", []string{"", "", ""}},
		{"a/b", []string{"a", "b"}},
		{"/a", []string{"", "a"}},
		{"a/", []string{"a", ""}},
		{"a//b", []string{"a", "", "b"}},
		{"a/+/#", []string{"a", "+", "#"}},
		{"#/+a/\x00", []string{"#", "+a", "\x00"}},
		{"$s/x", []string{"$s", "x"}},
		{"\xff/\xc3/\xa9", []string{"\xff", "\xc3", "\xa9"}},
		{"a\\b/ c", []string{"a\\b", " c"}},
	} {
		if l := Levels(x.s); !slices.Equal(l, x.want) {
			t.Errorf("Levels(%q): %q, want %q", x.s, l, x.want)
		}
		if l := told(t, x.s); !slices.Equal(l, x.want) {
			t.Errorf("Each(%q): %q, want %q", x.s, l, x.want)
		}
		if d := Depth(x.s); d != len(x.want) {
			t.Errorf("Depth(%q): %d, want %d", x.s, d, len(x.want))
		}
	}
}

// P1.1: the levels, with / between them, are the text again; none has a / ; and there is one more than it has such bytes.
func TestLevelsOfAllShortTexts(t *testing.T) {
	allTexts("a/+#\x00\xff", 5, func(s string) {
		l := Levels(s)
		if !slices.Equal(told(t, s), l) || Depth(s) != len(l) || len(l) != strings.Count(s, "/")+1 {
			t.Fatalf("%q: Levels %q, Each %q, Depth %d", s, l, told(t, s), Depth(s))
		}
		if strings.Join(l, "/") != s || strings.Contains(strings.Join(l, ""), "/") {
			t.Fatalf("Levels(%q): %q", s, l)
		}
	})
}

// P1.1: levels are told of texts far beyond a topic's length, too.
func TestLevelsOfLongTexts(t *testing.T) {
	for _, n := range []int{31, 32, 33, 1000, 1 << 18} {
		s := strings.Repeat("/", n)
		if l := Levels(s); len(l) != n+1 || slices.Max(l) != "" {
			t.Errorf("%d times / : %d levels", n, len(l))
		}
		if d := Depth(s); d != n+1 {
			t.Errorf("%d times / : depth %d", n, d)
		}
		if n := len(told(t, s)); n != Depth(s) {
			t.Errorf("%d levels told, want %d", n, Depth(s))
		}
		whole := strings.Repeat("a", n)
		if l := Levels(whole + "/b"); !slices.Equal(l, []string{whole, "b"}) {
			t.Errorf("%d times a, /b: %d levels", n, len(l))
		}
	}
}

// P1.1: a range that is left asks for no more, and each range begins at the first level, even within another one.
func TestEachLeftAndBegunAgain(t *testing.T) {
	each := Each("a/b/c")
	for stop := range 3 {
		n := 0
		for place := range each {
			n++
			if place == stop {
				break
			}
		}
		if n != stop+1 {
			t.Errorf("left at place %d: %d told", stop, n)
		}
	}
	var l []string
	for _, outer := range each {
		for _, inner := range each {
			l = append(l, outer+inner)
		}
	}
	if want := []string{"aa", "ab", "ac", "ba", "bb", "bc", "ca", "cb", "cc"}; !slices.Equal(l, want) {
		t.Errorf("%q, want %q", l, want)
	}
}

// P1.1, R4: what was answered may be written over, and lengthened, and the next answer is as the one ahead.
func TestLevelsAreNew(t *testing.T) {
	one, two := Levels("a/b"), Levels("a/b")
	one[0], one[1] = "x", "y"
	_ = append(one[:1], "z")
	for _, l := range [][]string{two, Levels("a/b")} {
		if !slices.Equal(l, []string{"a", "b"}) {
			t.Errorf("%q", l)
		}
	}
}

// P1.1: Topic and Filter, at ordinary texts, the chapter's examples and wrong ones; P1.2: Wild of all of them.
func TestKinds(t *testing.T) {
	for _, x := range []struct {
		s                   string
		topic, filter, wild bool
	}{
		{"a", true, true, false},
		{"a/b/c", true, true, false},
		{"/", true, true, false},
		{"//", true, true, false},
		{"$s/x", true, true, false},
		{"$", true, true, false},
		{" ", true, true, false},
		{"\x01\xff\x80", true, true, false},
		{"a/+/#", false, true, false},
		{"+", false, true, true},
		{"#", false, true, true},
		{"+/", false, true, true},
		{"+/+", false, true, true},
		{"+/#", false, true, true},
		{"+/a", false, true, true},
		{"/+", false, true, false},
		{"/#", false, true, false},
		{"a/+/b", false, true, false},
		{"$s/#", false, true, false},
		{"", false, false, false},
		{"a#", false, false, false},
		{"#a", false, false, false},
		{"a/#/b", false, false, false},
		{"/+a", false, false, false},
		{"a+", false, false, false},
		{"+a", false, false, false},
		{"a/b#", false, false, false},
		{"++", false, false, false},
		{"##", false, false, false},
		{"+#", false, false, false},
		{"#+", false, false, false},
		{"#/", false, false, true},
		{"#/#", false, false, true},
		{"#/+", false, false, true},
		{"+/a+", false, false, true},
		{"\x00", false, false, false},
		{"a/\x00", false, false, false},
		{"+/\x00", false, false, true},
		{"+\x00/a", false, false, false},
	} {
		if Topic(x.s) != x.topic || Filter(x.s) != x.filter || Wild(x.s) != x.wild {
			t.Errorf("%q: topic %v, filter %v, wild %v", x.s, Topic(x.s), Filter(x.s), Wild(x.s))
		}
	}
}

// P1.1: a topic and a filter have 1 to 32 bytes, counted as bytes; P1.2: Wild asks for no length.
func TestLengths(t *testing.T) {
	for n := range 70 {
		fits := 1 <= n && n <= 32
		for _, b := range []string{"a", "/", "\xff"} {
			s := strings.Repeat(b, n)
			if Topic(s) != fits || Filter(s) != fits || Wild(s) {
				t.Errorf("%d times %q: topic %v, filter %v, wild %v", n, b, Topic(s), Filter(s), Wild(s))
			}
		}
		s := "+/" + strings.Repeat("a", n)
		if Topic(s) || Filter(s) != (len(s) <= 32) || !Wild(s) {
			t.Errorf("%q: topic %v, filter %v, wild %v", s, Topic(s), Filter(s), Wild(s))
		}
		s = strings.Repeat("a", n) + "/#"
		if Topic(s) || Filter(s) != (len(s) <= 32) || Wild(s) {
			t.Errorf("%q: topic %v, filter %v, wild %v", s, Topic(s), Filter(s), Wild(s))
		}
	}
	if api.MaxTopic != 32 {
		t.Errorf("MaxTopic %d", api.MaxTopic)
	}
	if s := strings.Repeat("é", 16); !Topic(s) || !Filter(s) || Topic(s+"a") || Filter(s+"a") {
		t.Error("runes were counted, not bytes")
	}
	if s := "#/" + strings.Repeat("a", 1<<18); Topic(s) || Filter(s) || !Wild(s) {
		t.Error("a long text")
	}
}

// P1.1: of all 256 bytes, +, # and 0 alone are barred from topics, wherever they stand; in a filter's level beside another byte they are, too.
func TestEachByte(t *testing.T) {
	for b := range 256 {
		x := string([]byte{byte(b)})
		barred := b == 0 || b == '+' || b == '#'
		for _, s := range []string{x, x + "a", "a" + x, "a/" + x, x + "/a", "a" + x + "a", strings.Repeat("a", 31) + x} {
			if Topic(s) == barred {
				t.Errorf("Topic(%q): %v", s, !barred)
			}
		}
		for _, s := range []string{x + "a", "a" + x, "a/b" + x, x + "a/b"} {
			if Filter(s) == barred {
				t.Errorf("Filter(%q): %v", s, !barred)
			}
		}
		if Filter(x) == (b == 0) || Wild(x) != (b == '+' || b == '#') {
			t.Errorf("%q: filter %v, wild %v", x, Filter(x), Wild(x))
		}
	}
}

// filterByWords says anew, byte by byte, what the chapter's words ask of a filter.
func filterByWords(s string) bool {
	for i := range len(s) {
		first := i == 0 || s[i-1] == '/'
		end := i == len(s)-1
		switch s[i] {
		case 0:
			return false
		case '+':
			if !first || !end && s[i+1] != '/' {
				return false
			}
		case '#':
			if !first || !end {
				return false
			}
		}
	}
	return s != ""
}

// P1.1 and P1.2 at all short texts.
func TestKindsOfAllShortTexts(t *testing.T) {
	allTexts("a/+#$\x00\xff", 5, func(s string) {
		if want := s != "" && !strings.ContainsAny(s, "+#\x00"); Topic(s) != want {
			t.Fatalf("Topic(%q): %v", s, !want)
		}
		if want := filterByWords(s); Filter(s) != want {
			t.Fatalf("Filter(%q): %v", s, !want)
		}
		want := s == "+" || s == "#" || strings.HasPrefix(s, "+/") || strings.HasPrefix(s, "#/")
		if Wild(s) != want {
			t.Fatalf("Wild(%q): %v", s, !want)
		}
	})
}
