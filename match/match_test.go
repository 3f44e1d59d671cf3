package match

import (
	"regexp"
	"slices"
	"strings"
	"testing"

	"bellman/topic"
)

// allTexts tells each text of at most longest bytes that are among these.
func allTexts(bytes string, longest int) []string {
	texts := []string{""}
	for next := 0; next < len(texts) && len(texts[next]) < longest; next++ {
		for i := range len(bytes) {
			texts = append(texts, texts[next]+bytes[i:i+1])
		}
	}
	return texts
}

// only tells those of the texts of which is holds.
func only(texts []string, is func(s string) bool) []string {
	return slices.DeleteFunc(slices.Clone(texts), func(s string) bool { return !is(s) })
}

// wrongFilters are texts that are no filters, for all the reasons there are.
func wrongFilters() []string {
	return []string{
		"", "a#", "#a", "a+", "+a", "a/b+/c", "/+a", "a/#/b", "#/", "#/a", "#/#", "++", "##", "+#", "#+",
		"\x00", "a\x00", "+/\x00", "\x00/#", strings.Repeat("a", 33), strings.Repeat("/", 33),
		strings.Repeat("+/", 16) + "#", strings.Repeat("a", 31) + "/#", strings.Repeat("a", 1<<17), strings.Repeat("+/", 1<<16) + "#",
	}
}

// P2.1: ordinary filters and topics, and the edges that the chapter names.
func TestMatch(t *testing.T) {
	for _, x := range []struct {
		filter, topic string
		want          bool
	}{
		{"a", "a", true},
		{"a", "b", false},
		{"a", "A", false},
		{"a", "aa", false},
		{"aa", "a", false},
		{"a", "a/b", false},
		{"a/b", "a", false},
		{"a/b", "a/b", true},
		{"a/b", "b/a", false},
		{"a/b/c", "a/b/c", true},
		{"a/b/c", "a/x/c", false},
		// Levels may be empty, and count.
		{"/", "/", true},
		{"/", "//", false},
		{"//", "/", false},
		{"a", "a/", false},
		{"a/", "a", false},
		{"a", "/a", false},
		{"/a", "a", false},
		{"a//b", "a/b", false},
		{"a//b", "a//b", true},
		// + is any one level, no less and no more.
		{"a/+", "a/b", true},
		{"a/+", "a", false},
		{"a/+", "a/b/c", false},
		{"a/+", "a/", true},
		{"a/+", "b/b", false},
		{"+", "a", true},
		{"+", "/", false},
		{"+", "a/b", false},
		{"+/+", "/", true},
		{"+/+", "a/b", true},
		{"+/+", "a", false},
		{"/+", "/a", true},
		{"/+", "a", false},
		{"+/b", "a/b", true},
		{"+/b", "a/c", false},
		{"+/b", "/b", true},
		{"a/+/c", "a/b/c", true},
		{"a/+/c", "a//c", true},
		{"a/+/c", "a/c", false},
		{"a/+/c", "a/b/b/c", false},
		// # is all that is left, nothing too.
		{"#", "a", true},
		{"#", "/", true},
		{"#", "a/b/c", true},
		{"a/#", "a", true},
		{"a/#", "a/", true},
		{"a/#", "a/b", true},
		{"a/#", "a/b/c", true},
		{"a/#", "ab", false},
		{"a/#", "b", false},
		{"a/#", "/a", false},
		{"a/b/#", "a", false},
		{"a/b/#", "a/b", true},
		{"a/b/#", "a/c/b", false},
		{"/#", "/", true},
		{"/#", "/a/b", true},
		{"/#", "a", false},
		{"+/#", "a", true},
		{"+/#", "a/b/c", true},
		{"a/+/#", "a", false},
		{"a/+/#", "a/b", true},
		{"a/+/#", "a//c/d", true},
		// A first byte $ asks for a first level without a mark.
		{"#", "$", false},
		{"#", "$s", false},
		{"#", "$s/x", false},
		{"#", "$/x", false},
		{"+", "$s", false},
		{"+/x", "$s/x", false},
		{"+/#", "$s/x", false},
		{"+/+", "$s/x", false},
		{"$s", "$s", true},
		{"$s/x", "$s/x", true},
		{"$s/+", "$s/x", true},
		{"$s/#", "$s", true},
		{"$s/#", "$s/x/y", true},
		{"$s/#", "$t", false},
		{"$/+", "$/x", true},
		// Elsewhere than at the first byte, $ is a byte as any other.
		{"#", "a/$s", true},
		{"a/+", "a/$s", true},
		{"+", "a$", true},
		{"#", "/$s", true},
		{"/+", "/$s", true},
		{"+/+", "/$s", true},
		{"+/$s", "a/$s", true},
	} {
		if got := Match(x.filter, x.topic); got != x.want {
			t.Errorf("Match(%q, %q): %v, want %v", x.filter, x.topic, got, x.want)
		}
	}
}

// P2.1: what is no filter matches nothing, not even the same text, and what is no topic is matched by nothing.
func TestMatchOfWrongTexts(t *testing.T) {
	topics := []string{"a", "/", "a/b", "a/", "//", "$s", strings.Repeat("a", 32)}
	for _, f := range wrongFilters() {
		for _, s := range append(topics, f) {
			if Match(f, s) {
				t.Errorf("Match(%.40q, %.40q), but that is no filter", f, s)
			}
		}
	}
	wrong := append(wrongFilters(), "+", "#", "a/+", "+/a", "a/#", "/#", "$s/#")
	for _, s := range wrong {
		for _, f := range []string{"#", "+", "+/#", "+/+", "a", "a/#", "a/+", "$s/#", "/+", s} {
			if Match(f, s) {
				t.Errorf("Match(%.40q, %.40q), but that is no topic", f, s)
			}
		}
	}
}

// P2.1: levels are held against each other byte by byte, whatever the bytes are.
func TestMatchByBytes(t *testing.T) {
	for _, x := range []struct {
		filter, topic string
		want          bool
	}{
		{"\xff/+", "\xff/\xfe", true},
		{"\xff", "\xfe", false},
		{"\xff", "\uFFFD", false},
		{"\xc3/\xa9", "\xc3/\xa9", true},
		{"é", "e\u0301", false},
		{"+", "é", true},
		{"\x01/#", "\x01", true},
		{" a", "a", false},
		{".", "a", false},
		{"a/*", "a/b", false},
		{"a\\", "a/", false},
	} {
		if got := Match(x.filter, x.topic); got != x.want {
			t.Errorf("Match(%q, %q): %v, want %v", x.filter, x.topic, got, x.want)
		}
	}
	for b := range 256 {
		s := string([]byte{byte(b)})
		if want := !strings.Contains("\x00+#/", s); Match(s, s) != (want || s == "/") || Match("a/+", "a/"+s) != want {
			t.Errorf("byte %d", b)
		}
		if want := !strings.Contains("\x00+#$", s); Match("#", s) != want || Match("+", s) != (want && s != "/") {
			t.Errorf("byte %d, of marks", b)
		}
	}
}

// P2.1, P2.2: texts of up to 32 bytes are filters and topics, and none beyond.
func TestLengths(t *testing.T) {
	for n := 1; n < 70; n++ {
		fits := n <= 32
		for _, s := range []string{strings.Repeat("a", n), strings.Repeat("/", n)} {
			if Match(s, s) != fits || Match("#", s) != fits || Covers(s, s) != fits || Covers("#", s) != fits || Any([]string{s}, s) != fits {
				t.Errorf("%q", s)
			}
		}
		long := strings.Repeat("+/", n) + "#"
		if Match(long, strings.Repeat("/", 31)) != (len(long) <= 32) || Covers("#", long) != (len(long) <= 32) {
			t.Errorf("%q", long)
		}
	}
	deep := strings.Repeat("+/", 15) + "+"
	if !Match(deep, strings.Repeat("/", 15)) || Match(deep, strings.Repeat("/", 14)) || Match(deep, strings.Repeat("/", 16)) {
		t.Errorf("%q", deep)
	}
}

// filterForm and topicForm say anew which short texts are filters, and topics.
const (
	filterForm = `^([^/+#\x00]*/|\+/)*([^/+#\x00]*|\+|#)$`
	topicForm  = `^[^+#\x00]+$`
)

// matcher says anew, as an expression over whole texts, what the chapter's words ask for.
func matcher(filter string) func(topic string) bool {
	if filter == "" || !regexp.MustCompile(filterForm).MatchString(filter) {
		return func(string) bool { return false }
	}
	form := regexp.QuoteMeta(filter)
	form = strings.ReplaceAll(form, `\+`, `[^/]*`)
	if form == "#" {
		form = `.*`
	} else if ahead, ok := strings.CutSuffix(form, "/#"); ok {
		form = ahead + `(/.*)?`
	}
	matches, isTopic := regexp.MustCompile(`^(`+form+`)$`), regexp.MustCompile(topicForm)
	marked := filter[0] == '+' || filter[0] == '#'
	return func(topic string) bool {
		return isTopic.MatchString(topic) && matches.MatchString(topic) && !(marked && topic[0] == '$')
	}
}

// P2.1 at all pairs of short texts, filters and topics or not.
func TestMatchOfAllShortTexts(t *testing.T) {
	texts := allTexts("a/+#$\x00", 3)
	topics := slices.Concat(texts, only(allTexts("a/$b", 5), topic.Topic))
	for _, f := range slices.Concat(texts, only(allTexts("a/+#$", 5), topic.Filter)) {
		want := matcher(f)
		for _, s := range topics {
			if got := Match(f, s); got != want(s) {
				t.Fatalf("Match(%q, %q): %v", f, s, got)
			}
		}
	}
}

// P2.1: Any of no filters, of one, of more, of wrong ones among right ones, and of what is no topic.
func TestAny(t *testing.T) {
	for _, x := range []struct {
		filters []string
		topic   string
		want    bool
	}{
		{nil, "a", false},
		{[]string{}, "a", false},
		{nil, "", false},
		{[]string{"a"}, "a", true},
		{[]string{"b"}, "a", false},
		{[]string{"a", "b"}, "a", true},
		{[]string{"b", "+"}, "a", true},
		{[]string{"b", "c", "a/#"}, "a", true},
		{[]string{"b", "a", "c"}, "a", true},
		{[]string{"b", "c", "d"}, "a", false},
		{[]string{"a", "a"}, "a", true},
		{[]string{"a#", "", "a"}, "a", true},
		{[]string{"a#", "", "a\x00"}, "a", false},
		{[]string{"#", "+"}, "$s", false},
		{[]string{"#", "$s/#"}, "$s", true},
		{[]string{"#", "+", ""}, "", false},
		{[]string{"a+", "#"}, "a+", false},
		{[]string{"#", "+"}, "+", false},
		{[]string{"#"}, strings.Repeat("a", 33), false},
	} {
		if got := Any(x.filters, x.topic); got != x.want {
			t.Errorf("Any(%q, %q): %v, want %v", x.filters, x.topic, got, x.want)
		}
	}
	many := slices.Repeat([]string{"b"}, 1<<16)
	if Any(many, "a") || !Any(append(many, "a"), "a") || !Any(append([]string{"a"}, many...), "a") {
		t.Error("a long list")
	}
}

// P2.1, R4: the list is left as it is, and what lies behind its length does not count.
func TestAnyLeavesTheList(t *testing.T) {
	whole := []string{"c", "b", "c", "a", "#"}
	kept := slices.Clone(whole)
	if Any(whole[:3], "a") || !Any(whole[:3], "b") || !Any(whole[:4], "a") || Any(whole[:0], "a") {
		t.Error("a list within another one")
	}
	if !slices.Equal(whole, kept) {
		t.Errorf("%q, was %q", whole, kept)
	}
}

// P2.2: ordinary filters, and the edges that the chapter names.
func TestCovers(t *testing.T) {
	for _, x := range []struct {
		a, b string
		want bool
	}{
		{"a", "a", true},
		{"a", "b", false},
		{"a/b", "a", false},
		{"a", "a/b", false},
		{"a/", "a", false},
		{"/", "/", true},
		{"a", "+", false},
		{"a", "#", false},
		{"a", "a/#", false},
		// + of a is like any one level but #.
		{"+", "a", true},
		{"+", "+", true},
		{"+", "#", false},
		{"+", "/", false},
		{"+", "a/b", false},
		{"+/+", "/", true},
		{"+/+", "+/a", true},
		{"+/a", "+/+", false},
		{"a/+", "a/", true},
		{"a/+", "a/+", true},
		{"a/+", "a/#", false},
		{"a/+", "a", false},
		{"a/+", "a/b/c", false},
		{"a/+/c", "a/+/c", true},
		{"a/+/c", "+/b/c", false},
		{"a/+/c", "a/b/#", false},
		// # of a is like all that is left, nothing too.
		{"#", "#", true},
		{"#", "+", true},
		{"#", "a", true},
		{"#", "/", true},
		{"#", "a/+", true},
		{"#", "+/#", true},
		{"a/#", "a", true},
		{"a/#", "a/", true},
		{"a/#", "a/#", true},
		{"a/#", "a/+", true},
		{"a/#", "a/+/b", true},
		{"a/#", "a/+/#", true},
		{"a/#", "b", false},
		{"a/#", "+", false},
		{"a/#", "#", false},
		{"a/#", "+/b", false},
		{"a/b/#", "a", false},
		{"a/b/#", "a/#", false},
		{"a/+/#", "a", false},
		{"a/+/#", "a/b", true},
		{"a/+/#", "a/+", true},
		{"a/+/#", "a/#", false},
		{"+/#", "+", true},
		{"+/#", "a/#", true},
		{"/#", "/", true},
		{"/#", "/#", true},
		// By their levels, even where the topics are the same.
		{"+/#", "#", false},
		{"/+/#", "/#", false},
		{"+/+/#", "/#", false},
		// A first byte $ of b asks for a first level of a without a mark.
		{"#", "$s", false},
		{"#", "$", false},
		{"#", "$s/#", false},
		{"+", "$s", false},
		{"+/a", "$s/a", false},
		{"+/#", "$s/a", false},
		{"$s", "$s", true},
		{"$s/#", "$s", true},
		{"$s/+", "$s/a", true},
		{"$s/#", "$s/#", true},
		{"$s/#", "$t", false},
		{"$s", "+", false},
		{"#", "a/$s", true},
		{"+", "a$", true},
		{"/+", "/$s", true},
	} {
		if got := Covers(x.a, x.b); got != x.want {
			t.Errorf("Covers(%q, %q): %v, want %v", x.a, x.b, got, x.want)
		}
	}
}

// P2.2: what is no filter covers nothing and is covered by nothing, not even by itself.
func TestCoversOfWrongTexts(t *testing.T) {
	for _, w := range wrongFilters() {
		for _, f := range []string{"#", "+", "+/#", "+/+", "a", "a/#", "a/+", "a/b", "/", "$s/#", w} {
			if Covers(w, f) || Covers(f, w) {
				t.Errorf("%.40q, %.40q", w, f)
			}
		}
	}
}

// coversByWords says the chapter's words anew, from the first levels on.
func coversByWords(a, b []string) bool {
	switch {
	case len(a) == 1 && a[0] == "#":
		return true
	case len(a) == 0 || len(b) == 0:
		return len(a) == len(b)
	case a[0] == "+":
		return b[0] != "#" && coversByWords(a[1:], b[1:])
	}
	return a[0] == b[0] && coversByWords(a[1:], b[1:])
}

// P2.2 at all pairs of short texts, filters or not.
func TestCoversOfAllShortTexts(t *testing.T) {
	texts := slices.Concat(allTexts("a/+#$\x00", 3), only(allTexts("a/+#$", 5), topic.Filter))
	form := regexp.MustCompile(filterForm)
	for _, a := range texts {
		for _, b := range texts {
			want := a != "" && b != "" && form.MatchString(a) && form.MatchString(b) &&
				!((a[0] == '+' || a[0] == '#') && b[0] == '$') &&
				coversByWords(strings.Split(a, "/"), strings.Split(b, "/"))
			if got := Covers(a, b); got != want {
				t.Fatalf("Covers(%q, %q): %v", a, b, got)
			}
		}
	}
}

// P2.2: a covers b just if a matches each topic that b matches. But no topic has just the levels ahead of the # in # or in /# :
// +/# matches whatever # does, and yet does not cover it.
func TestCoversIsMatchOfAll(t *testing.T) {
	filters := only(allTexts("a/+#$", 4), topic.Filter)
	topics := only(allTexts("a/$z", 5), topic.Topic)
	matched := make([][]bool, len(filters))
	for i, f := range filters {
		for _, s := range topics {
			matched[i] = append(matched[i], Match(f, s))
		}
	}
	for i, a := range filters {
		for j, b := range filters {
			all := true
			for k := range topics {
				all = all && (matched[i][k] || !matched[j][k])
			}
			if got := Covers(a, b); got != all && (got || b != "#" && b != "/#") {
				t.Errorf("Covers(%q, %q): %v", a, b, got)
			}
		}
	}
}

// R6: the same call has the same answer each time.
func TestSameAnswerAgain(t *testing.T) {
	for range 3 {
		if !Match("a/#", "a") || Match("a/+", "a") || !Covers("a/#", "a/+") || Covers("a/+", "a/#") || !Any([]string{"b", "a"}, "a") {
			t.Fatal("another answer")
		}
	}
}
