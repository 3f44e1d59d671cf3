package keep

import (
	"cmp"
	"iter"
	"maps"
	"math/bits"
	"slices"
	"strconv"
	"strings"
	"testing"

	"bellman/api"
	"bellman/match"
	"bellman/topic"
)

// longest is a payload of as many bytes as there may be.
const longest = "0123456789abcdef"

// was is a payload with the version at which it was put.
type was struct {
	payload string
	version int
}

// words is what the chapter's words say of a store: what each topic has, and the version.
type words struct {
	topics  map[string]was
	version int
}

// put does in w what the chapter says of Put.
func (w *words) put(text, payload string) api.Errno {
	switch {
	case !topic.Topic(text):
		return api.ErrTopic
	case len(payload) > 16:
		return api.ErrArg
	}
	w.version++
	delete(w.topics, text)
	if payload != "" {
		w.topics[text] = was{payload, w.version}
	}
	return api.OK
}

func (w *words) copied() *words {
	return &words{maps.Clone(w.topics), w.version}
}

// messages tells those of the topics of which that is true, in order.
func (w *words) messages(wanted func(topic string) bool) []api.Msg {
	var l []api.Msg
	for _, text := range slices.Sorted(maps.Keys(w.topics)) {
		if wanted(text) {
			l = append(l, api.Msg{Topic: text, Payload: w.topics[text].payload, Kept: true})
		}
	}
	return l
}

func noWords() *words {
	return &words{topics: map[string]was{}}
}

// deed is a topic that is put with a payload.
type deed struct {
	topic, payload string
}

// String tells a deed so that all its bytes can be read.
func (d deed) String() string {
	return strconv.Quote(d.topic) + " " + strconv.Quote(d.payload)
}

// wrong are texts that are no topics, for all the reasons there are.
var wrong = []string{
	"", "+", "#", "a+", "+a", "a#", "a/+", "+/a", "a/#", "#/a", "a/b+c", "\x00", "a\x00", "a/\x00/b",
	strings.Repeat("a", 33), strings.Repeat("/", 33), strings.Repeat("a/", 17), strings.Repeat("a", 1<<17),
}

// topics are some of each kind, in the order in which All has to tell them.
var topics = []string{
	"\x01", " ", "!", "$", "$s", "$s/a", "$s/a/b", "-", "/", "//", "//a", "/a", "0", "A", "a", "a\x01", "a!", "a!/b", "a.", "a/", "a/$s", "a//b",
	"a/b", "a/b!", "a/b/c", "a/bb", "a/c", "a0", "aa", "aa/b", "ab", "a\xff", "b", "b/a", "b/b", "b/b/b", "é", "\xff", "\xff/a", "\xff\xff",
}

// filters are some of each kind, and texts that are none.
var filters = []string{
	"a", "b", "A", "a/b", "a/b/c", "a!", "$s", "$s/a", "/", "//", "a/", "/a", "a//b", "\xff", "nobody",
	"+", "+/+", "+/b", "a/+", "+/+/+", "a/+/c", "/+", "+/", "a//+", "a/+/b", "$s/+", "$s/+/b", "+/a", "+/$s", "$/+",
	"#", "+/#", "a/#", "a/b/#", "/#", "//#", "a/+/#", "+/b/#", "a/b/c/#", "$s/#", "$s/a/#", "$/#", "nobody/#",
	"", "a#", "a+", "+a", "#a", "a/#/b", "#/#", "#/", "##", "++", "+#", "\x00", "#\x00", "a/\x00/#",
	strings.Repeat("a", 33), strings.Repeat("/", 33), strings.Repeat("+/", 16) + "#", strings.Repeat("a", 31) + "/#",
}

// first tells as many messages as are wanted, at least one, and ends the range at the last of them.
func first(messages iter.Seq[api.Msg], wanted int) []api.Msg {
	var some []api.Msg
	for m := range messages {
		some = append(some, m)
		if len(some) == wanted {
			break
		}
	}
	return some
}

// checkSeq ranges over messages as often as it can be done otherwise: all of them, twice, and stopping at every place.
func checkSeq(t *testing.T, what string, got iter.Seq[api.Msg], want []api.Msg) {
	t.Helper()
	if got == nil {
		t.Fatalf("%s: a nil function", what)
	}
	for range 2 {
		if all := slices.Collect(got); !slices.Equal(all, want) {
			t.Fatalf("%s: %+v, want %+v", what, all, want)
		}
	}
	for i := range want {
		if some := first(got, i+1); !slices.Equal(some, want[:i+1]) {
			t.Fatalf("%s, stopped at %d: %+v, want %+v", what, i, some, want[:i+1])
		}
	}
	if all := slices.Collect(got); !slices.Equal(all, want) {
		t.Fatalf("%s, behind all that: %+v, want %+v", what, all, want)
	}
}

// checkNumbers asks a store all that P15.1 has, twice, as asking changes nothing.
func checkNumbers(t *testing.T, what string, s Store, w *words) {
	t.Helper()
	for range 2 {
		if s.Len() != len(w.topics) || s.Version() != w.version {
			t.Fatalf("%s: Len %d, Version %d, want %d, %d", what, s.Len(), s.Version(), len(w.topics), w.version)
		}
		for _, text := range slices.Concat(slices.Collect(maps.Keys(w.topics)), topics, wrong, filters) {
			want, has := w.topics[text]
			if payload, version, ok := s.Get(text); payload != want.payload || version != want.version || ok != has {
				t.Fatalf("%s: Get(%q): %q, %d, %v, want %q, %d, %v", what, text, payload, version, ok, want.payload, want.version, has)
			}
		}
	}
}

// check asks a store all that may be asked of it.
func check(t *testing.T, what string, s Store, w *words) {
	t.Helper()
	checkNumbers(t, what, s, w)
	checkSeq(t, what+": All", s.All(), w.messages(func(string) bool { return true }))
	for _, filter := range filters {
		want := w.messages(func(text string) bool { return match.Match(filter, text) })
		checkSeq(t, what+": Scan "+strconv.Quote(filter), s.Scan(filter), want)
	}
}

// checkPut puts into a store and into its words, and looks at both stores: what comes of it, and the one that was.
func checkPut(t *testing.T, s Store, w *words, d deed, look func(*testing.T, string, Store, *words)) (Store, *words) {
	t.Helper()
	then := w.copied()
	want := then.put(d.topic, d.payload)
	var next Store
	for range 2 {
		var err api.Errno
		if next, err = s.Put(d.topic, d.payload); err != want {
			t.Fatalf("Put %v: %d, want %d", d, err, want)
		}
	}
	look(t, "behind "+d.String(), next, then)
	look(t, "ahead of "+d.String(), s, w)
	return next, then
}

// stored tells the store behind these deeds, which must be without errors, and its words.
func stored(t *testing.T, deeds ...deed) (Store, *words) {
	t.Helper()
	var s Store
	w := noWords()
	for _, d := range deeds {
		next, err := s.Put(d.topic, d.payload)
		if err != api.OK || w.put(d.topic, d.payload) != api.OK {
			t.Fatalf("Put %v: %d", d, err)
		}
		s = next
	}
	return s, w
}

// keptAll tells deeds that put each of the topics, in this order.
func keptAll(texts []string) []deed {
	var deeds []deed
	for i, text := range texts {
		deeds = append(deeds, deed{text, "p" + strconv.Itoa(i)})
	}
	return deeds
}

// backward tells the same from behind.
func backward[T any](l []T) []T {
	l = slices.Clone(l)
	slices.Reverse(l)
	return l
}

// stirred tells the same in an order that is neither rising nor falling.
func stirred[T any](l []T) []T {
	l = slices.Clone(l)
	next := numbers(7)
	for i := range l {
		j := i + next(len(l)-i)
		l[i], l[j] = l[j], l[i]
	}
	return l
}

// numbers tells a function that tells numbers ahead of n, which are the same each time.
func numbers(seed uint64) func(n int) int {
	return func(n int) int {
		seed = seed*6364136223846793005 + 1442695040888963407
		high, _ := bits.Mul64(seed, uint64(n))
		return int(high)
	}
}

// told tells a list's topics, with spaces between.
func told(messages iter.Seq[api.Msg]) string {
	var texts []string
	for m := range messages {
		texts = append(texts, m.Topic)
	}
	return strings.Join(texts, " ")
}

// P15.1, P15.2: the chapter's example.
func TestExample(t *testing.T) {
	s, w := stored(t, deed{"b", "1"}, deed{"a", "2"})
	checkSeq(t, "the example", s.Scan("#"), []api.Msg{{Topic: "a", Payload: "2", Kept: true}, {Topic: "b", Payload: "1", Kept: true}})
	check(t, "the example", s, w)
}

// P15.1, P15.2: a zero store is empty, and its version is 0.
func TestZero(t *testing.T) {
	var s Store
	check(t, "a zero store", s, noWords())
	if s.Len() != 0 || s.Version() != 0 {
		t.Error(s.Len(), s.Version())
	}
	for range s.All() {
		t.Error("All tells a message")
	}
	for range s.Scan("#") {
		t.Error("Scan tells a message")
	}
	checkPut(t, s, noWords(), deed{"a", "1"}, check)
	checkPut(t, s, noWords(), deed{"a", ""}, check)
}

// P15.1: of a topic that had no payload, and of one that had one, the version is 1 more each time.
func TestPut(t *testing.T) {
	var s Store
	for i, d := range []deed{{"a", "1"}, {"b", "2"}, {"a", "3"}, {"a", "3"}, {"a/b", "x"}, {"b", "2"}, {"/", "y"}, {"$s", "z"}, {"a", "1"}} {
		next, err := s.Put(d.topic, d.payload)
		if err != api.OK || next.Version() != i+1 || s.Version() != i {
			t.Fatalf("Put %v: %d, version %d behind %d", d, err, next.Version(), s.Version())
		}
		if payload, version, ok := next.Get(d.topic); payload != d.payload || version != i+1 || !ok {
			t.Fatalf("Put %v: Get %q, %d, %v", d, payload, version, ok)
		}
		s = next
	}
	if s.Len() != 5 {
		t.Error(s.Len())
	}
	// What was put once has the version of that time.
	for text, want := range map[string]was{"a": {"1", 9}, "b": {"2", 6}, "a/b": {"x", 5}, "/": {"y", 7}, "$s": {"z", 8}} {
		if payload, version, ok := s.Get(text); payload != want.payload || version != want.version || !ok {
			t.Errorf("Get(%q): %q, %d, %v", text, payload, version, ok)
		}
	}
}

// P15.1: an empty payload takes away what a topic has; where it has none the version alone is 1 more.
func TestPutEmpty(t *testing.T) {
	var s Store
	for i, x := range []struct {
		deed
		len int
	}{
		{deed{"a", ""}, 0}, {deed{"a", ""}, 0}, {deed{"a", "1"}, 1}, {deed{"b", ""}, 1}, {deed{"a/b", ""}, 1}, {deed{"b", "2"}, 2},
		{deed{"a", ""}, 1}, {deed{"a", ""}, 1}, {deed{"b", ""}, 0}, {deed{"b", ""}, 0}, {deed{"b", "3"}, 1},
	} {
		next, err := s.Put(x.topic, x.payload)
		if err != api.OK || next.Version() != i+1 || next.Len() != x.len {
			t.Fatalf("Put %v: %d, version %d, Len %d", x.deed, err, next.Version(), next.Len())
		}
		if payload, version, ok := next.Get(x.topic); x.payload == "" && (payload != "" || version != 0 || ok) {
			t.Fatalf("Put %v: Get %q, %d, %v", x.deed, payload, version, ok)
		}
		s = next
	}
	if payload, version, ok := s.Get("b"); payload != "3" || version != 11 || !ok {
		t.Error(payload, version, ok)
	}
}

// P15.1: what is no topic, too long a payload, and both: the first of the two errors, and the store as it is.
func TestPutErrors(t *testing.T) {
	full, w := stored(t, deed{"a", "1"}, deed{"b", "2"}, deed{"c", ""}, deed{"a", longest})
	for s, w := range map[*Store]*words{{}: noWords(), &full: w} {
		for _, text := range wrong {
			for _, payload := range []string{"", "1", longest, longest + "g", strings.Repeat("x", 1<<17)} {
				if next, err := s.Put(text, payload); err != api.ErrTopic || next.Version() != w.version {
					t.Fatalf("Put %v: %d, version %d", deed{text, payload}, err, next.Version())
				}
				checkPut(t, *s, w, deed{text, payload}, checkNumbers)
			}
			checkPut(t, *s, w, deed{text, "1"}, check)
		}
		for _, text := range []string{"a", "b", "c", "/", "$s", strings.Repeat("a", 32)} {
			for _, payload := range []string{longest + "g", strings.Repeat("x", 18), strings.Repeat("\x00", 17), strings.Repeat("é", 9), strings.Repeat("x", 1<<17)} {
				if next, err := s.Put(text, payload); err != api.ErrArg || next.Version() != w.version {
					t.Fatalf("Put %v: %d, version %d", deed{text, payload}, err, next.Version())
				}
				checkPut(t, *s, w, deed{text, payload}, check)
			}
		}
	}
}

// P15.1: payloads of 1 to 16 bytes, which may be any; a topic of 32 bytes is one.
func TestEdges(t *testing.T) {
	var s Store
	w := noWords()
	for n := 1; n <= 16; n++ {
		s, w = checkPut(t, s, w, deed{"a", longest[:n]}, check)
		if payload, version, ok := s.Get("a"); payload != longest[:n] || version != n || !ok {
			t.Fatal(payload, version, ok)
		}
	}
	for _, payload := range []string{"\x00", "\x00\x00", " ", "\xff", "+", "#", "a/b", "\n", strings.Repeat("\x00", 16), strings.Repeat("é", 8)} {
		s, w = checkPut(t, s, w, deed{"b", payload}, check)
		if got, _, ok := s.Get("b"); got != payload || !ok {
			t.Fatalf("%q: %q, %v", payload, got, ok)
		}
	}
	for _, text := range []string{strings.Repeat("a", 32), strings.Repeat("/", 32), "\x01", "\xff", " ", "$", "a//", strings.Repeat("a/", 16)} {
		s, w = checkPut(t, s, w, deed{text, "x"}, check)
		s, w = checkPut(t, s, w, deed{text, longest + "g"}, check)
		s, w = checkPut(t, s, w, deed{text + "+", "x"}, check)
	}
}

// P15.1: of a topic that never had a payload, of one whose payload was taken away, and of what is no topic, there is none.
func TestGet(t *testing.T) {
	s, w := stored(t, deed{"a", "1"}, deed{"b", "2"}, deed{"c/d", "3"}, deed{"b", ""}, deed{"e", ""})
	for text, want := range map[string]was{"a": {"1", 1}, "c/d": {"3", 3}} {
		if payload, version, ok := s.Get(text); payload != want.payload || version != want.version || !ok {
			t.Errorf("Get(%q): %q, %d, %v", text, payload, version, ok)
		}
	}
	for _, text := range slices.Concat([]string{"b", "e", "f", "A", "aa", "a/", "/a", "c", "c/", "d", "c/d/e", "1", "a\x00", "c/+", "c/#"}, wrong) {
		if payload, version, ok := s.Get(text); payload != "" || version != 0 || ok {
			t.Errorf("Get(%q): %q, %d, %v", text, payload, version, ok)
		}
	}
	check(t, "Get", s, w)
}

// P15.1: a store stays as it was, whatever was put into what came of it, and one may go on from it twice.
func TestStaysAsItWas(t *testing.T) {
	s, w := stored(t, deed{"b", "1"}, deed{"d", "2"}, deed{"f", "3"})
	next := []deed{{"a", "4"}, {"c", "5"}, {"g", "6"}, {"b", "7"}, {"d", ""}, {"f", "3"}, {"x", ""}, {"+", "1"}, {"b", longest + "g"}}
	for _, one := range next {
		for _, two := range next {
			s1, w1 := checkPut(t, s, w, one, check)
			s2, w2 := checkPut(t, s1, w1, two, check)
			other, w3 := checkPut(t, s, w, two, check)
			for what, x := range map[string]struct {
				Store
				*words
			}{"the first": {s, w}, "the second": {s1, w1}, "the third": {s2, w2}, "the other": {other, w3}} {
				check(t, what+", behind "+one.String()+" and "+two.String(), x.Store, x.words)
			}
		}
	}
}

// P15.1: what a store tells is what it was at the call: a range that is begun goes on over the store that it was made of.
func TestRangeStaysAsItWas(t *testing.T) {
	s, w := stored(t, keptAll(topics)...)
	all, scan := s.All(), s.Scan("#")
	now, then := s, w
	for m := range all {
		now, then = checkPut(t, now, then, deed{m.Topic, ""}, checkNumbers)
		now, then = checkPut(t, now, then, deed{"a/new", m.Topic[:1]}, checkNumbers)
	}
	if now.Len() != 1 || now.Version() != 3*len(topics) {
		t.Error(now.Len(), now.Version())
	}
	s = now
	checkSeq(t, "All of the one that was", all, w.messages(func(string) bool { return true }))
	checkSeq(t, "Scan of the one that was", scan, w.messages(func(text string) bool { return text[0] != '$' }))
	check(t, "the last", s, then)
}

// P15.2: each kind of filter, with what it has to tell written out.
func TestScan(t *testing.T) {
	texts := []string{"a", "b", "a/b", "a/c", "b/b", "a/b/c", "a/b/c/d", "/", "//", "/a", "a/", "a//b", "$s", "$s/a", "$s/a/b", "aa"}
	cases := map[string]string{
		// Plain levels.
		"a": "a", "b": "b", "aa": "aa", "a/b": "a/b", "a/b/c": "a/b/c", "c": "", "A": "", "a/b/c/d/e": "",
		// A level +.
		"+": "a aa b", "a/+": "a/ a/b a/c", "+/b": "a/b b/b", "+/+": "/ /a a/ a/b a/c b/b", "a/+/c": "a/b/c", "+/+/+": "// a//b a/b/c", "b/+/+": "",
		// A level # behind none, one and several levels.
		"#": "/ // /a a a/ a//b a/b a/b/c a/b/c/d a/c aa b b/b", "a/#": "a a/ a//b a/b a/b/c a/b/c/d a/c", "b/#": "b b/b",
		"a/b/#": "a/b a/b/c a/b/c/d", "a/b/c/#": "a/b/c a/b/c/d", "a/+/c/#": "a/b/c a/b/c/d", "c/#": "",
		"+/#": "/ // /a a a/ a//b a/b a/b/c a/b/c/d a/c aa b b/b", "+/+/#": "/ // /a a/ a//b a/b a/b/c a/b/c/d a/c b/b", "+/b/#": "a/b a/b/c a/b/c/d b/b",
		// Topics that are set apart.
		"$s": "$s", "$s/a": "$s/a", "$s/+": "$s/a", "$s/#": "$s $s/a $s/a/b", "$s/a/#": "$s/a $s/a/b", "+/a": "/a", "+/a/#": "/a", "$/#": "",
		// Empty levels.
		"/": "/", "//": "//", "/a": "/a", "a/": "a/", "a//b": "a//b", "/+": "/ /a", "+/": "/ a/", "/#": "/ // /a", "//#": "/ //", "a//#": "a/ a//b", "+//+": "// a//b", "///": "",
		// What is no filter, a topic among them that is too long.
		"": "", "a#": "", "a+": "", "+a": "", "#/a": "", "#/#": "", "a/#/c": "", "##": "", "\x00": "", "#\x00": "", strings.Repeat("a", 33): "", strings.Repeat("+/", 16) + "#": "",
	}
	for _, order := range [][]string{texts, slices.Sorted(slices.Values(texts)), backward(texts), stirred(texts)} {
		s, w := stored(t, keptAll(order)...)
		for filter, want := range cases {
			if got := told(s.Scan(filter)); got != want {
				t.Errorf("Scan(%q): %q, want %q", filter, got, want)
			}
		}
		check(t, "each kind", s, w)
	}
}

// P15.2: the order is by the topics, rising byte by byte, whatever the order in which they were put.
func TestOrder(t *testing.T) {
	if !slices.IsSorted(topics) {
		t.Fatal("the topics aren't rising")
	}
	for what, order := range map[string][]string{"rising": topics, "falling": backward(topics), "stirred": stirred(topics)} {
		s, w := stored(t, keptAll(order)...)
		var got []string
		for m := range s.All() {
			got = append(got, m.Topic)
		}
		if !slices.Equal(got, topics) {
			t.Errorf("%s: %q, want %q", what, got, topics)
		}
		check(t, what, s, w)
	}
}

// P15.2: every row of five topics, in all orders and with some of them put again.
func TestOrderOfRows(t *testing.T) {
	texts := []string{"$s", "a", "a!", "a/b", "aa"}
	for number := range 5 * 5 * 5 * 5 * 5 {
		var row []string
		for range 5 {
			row = append(row, texts[number%5])
			number /= 5
		}
		s, w := stored(t, keptAll(row)...)
		checkSeq(t, "All", s.All(), w.messages(func(string) bool { return true }))
		checkSeq(t, "Scan", s.Scan("#"), w.messages(func(text string) bool { return text != "$s" }))
	}
}

// P15.2: each message has its topic, its payload, and Kept; those of a payload that was taken away don't come.
func TestMessages(t *testing.T) {
	s, w := stored(t, deed{"b", "1"}, deed{"a/x", "\x00"}, deed{"a", "3"}, deed{"a", longest}, deed{"b", ""}, deed{"$s", "4"})
	checkSeq(t, "All", s.All(), []api.Msg{{Topic: "$s", Payload: "4", Kept: true}, {Topic: "a", Payload: longest, Kept: true}, {Topic: "a/x", Payload: "\x00", Kept: true}})
	checkSeq(t, "Scan", s.Scan("+/x"), []api.Msg{{Topic: "a/x", Payload: "\x00", Kept: true}})
	checkSeq(t, "Scan", s.Scan("b"), nil)
	checkSeq(t, "Scan", s.Scan("$s/#"), []api.Msg{{Topic: "$s", Payload: "4", Kept: true}})
	check(t, "messages", s, w)
}

// P15.2: ranges may stand in each other, and each goes on where it is.
func TestRangesInEachOther(t *testing.T) {
	s, w := stored(t, keptAll(backward(topics))...)
	all, scan := s.All(), s.Scan("a/#")
	want := told(scan)
	var outer []api.Msg
	for m := range all {
		outer = append(outer, m)
		if len(first(all, 3)) != 3 || told(scan) != want || len(first(scan, 1)) != 1 {
			t.Fatal("a range in another one")
		}
		// What came may be written over, and nothing else changes by it.
		m.Topic, m.Payload, m.Kept = "written", "over", false
	}
	if !slices.Equal(outer, w.messages(func(string) bool { return true })) {
		t.Errorf("%+v", outer)
	}
	check(t, "ranges in each other", s, w)
}

// P15.2: a list of what came may be written over.
func TestWrittenOver(t *testing.T) {
	s, w := stored(t, keptAll(topics)...)
	for _, l := range [][]api.Msg{slices.Collect(s.All()), slices.Collect(s.Scan("#")), slices.Collect(s.Scan("a/#"))} {
		for i := range l {
			l[i] = api.Msg{Topic: "written", Payload: "over"}
		}
		_ = append(l[:0], api.Msg{})
		check(t, "written over", s, w)
	}
}

// P15.1, P15.2: all short rows of deeds, held against the words.
func TestShortRows(t *testing.T) {
	deeds := []deed{{"a", "1"}, {"a", "2"}, {"a", ""}, {"b/c", "1"}, {"b/c", ""}, {"$s", "3"}, {"+", "1"}, {"a", longest + "g"}}
	var rows func(s Store, w *words, left int)
	rows = func(s Store, w *words, left int) {
		if left == 0 {
			check(t, "a row", s, w)
			return
		}
		for _, d := range deeds {
			next, then := checkPut(t, s, w, d, quick)
			rows(next, then, left-1)
		}
	}
	for length := range 4 {
		rows(Store{}, noWords(), length)
	}
}

// quick asks a store its numbers and all its messages alone.
func quick(t *testing.T, what string, s Store, w *words) {
	t.Helper()
	if s.Len() != len(w.topics) || s.Version() != w.version {
		t.Fatalf("%s: Len %d, Version %d, want %d, %d", what, s.Len(), s.Version(), len(w.topics), w.version)
	}
	if got := slices.Collect(s.All()); !slices.Equal(got, w.messages(func(string) bool { return true })) {
		t.Fatalf("%s: %+v", what, got)
	}
	for text, want := range w.topics {
		if payload, version, ok := s.Get(text); payload != want.payload || version != want.version || !ok {
			t.Fatalf("%s: Get(%q): %q, %d, %v", what, text, payload, version, ok)
		}
	}
}

// P15.1, P15.2: long rows of deeds, held against the words.
func TestLongRows(t *testing.T) {
	payloads := []string{"", "", "", "x", "y", longest, longest + "g", "\x00"}
	texts := slices.Concat(topics, wrong[:14])
	for seed := range uint64(12) {
		next := numbers(seed)
		var s Store
		w := noWords()
		for i := range 400 {
			d := deed{texts[next(len(texts))], payloads[next(len(payloads))]}
			s, w = checkPut(t, s, w, d, quick)
			if i%100 == 99 {
				check(t, "a long row", s, w)
			}
		}
	}
}

// P15.1, P15.2: many topics at once.
func TestMany(t *testing.T) {
	var s Store
	want := 0
	for i := range 3000 {
		text := strconv.Itoa(i*7919%3000) + "/x"
		next, err := s.Put(text, "v"+strconv.Itoa(i))
		if err != api.OK {
			t.Fatal(text, err)
		}
		s = next
		want++
		if s.Len() != want || s.Version() != i+1 {
			t.Fatal(s.Len(), s.Version())
		}
	}
	l := slices.Collect(s.Scan("+/x"))
	if len(l) != 3000 || !slices.IsSortedFunc(l, func(a, b api.Msg) int { return cmp.Compare(a.Topic, b.Topic) }) {
		t.Error(len(l))
	}
	for i := range 3000 {
		next, err := s.Put(strconv.Itoa(i)+"/x", "")
		if err != api.OK {
			t.Fatal(i, err)
		}
		s = next
	}
	checkNumbers(t, "all taken away", s, &words{version: 6000})
	checkSeq(t, "all taken away", s.All(), nil)
}
