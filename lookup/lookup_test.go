package lookup_test

import (
	"fmt"
	"math"
	"math/rand"
	"slices"
	"strings"
	"testing"

	"beadroll/api"
	"beadroll/lookup"
	"beadroll/rdata"
	"beadroll/zone"
)

const (
	a     = 1
	ns    = 2
	cname = 5
	soa   = 6
	mx    = 15
	txt   = 16
	aaaa  = 28
	every = 255

	root = "\x00"
	apex = "\x01a\x00"
)

// scribble is written over what is returned.
var scribble = api.RR{Name: "\x08scribble\x00", Type: 8, Class: 8, TTL: 77777, Data: "scribble"}

// wrongNames are strings that are not names, most of which end like a name under a.
var wrongNames = []string{
	"", "\x01", "\x01a", "a", "a.", "x.a.", "\x00\x00", "\x01a\x00\x00", "\x01x\x01a\x00\x00", "\x01x\x01a", "\x02x\x01a\x00", "\x00\x01a\x00", "\x01x\x00\x01a\x00",
	"\x01a\xc0\x00", "\xc0\x00", "\xc0\x00\x01a\x00", "\x40" + strings.Repeat("x", 64) + "\x01a\x00", strings.Repeat("\x01x", 126) + "\x01x\x01a\x00",
}

// wire returns the name that the labels of a text form; "" is the root.
func wire(text string) string {
	n := ""
	for _, label := range strings.FieldsFunc(text, func(c rune) bool { return c == '.' }) {
		n += string([]byte{byte(len(label))}) + label
	}
	return n + root
}

func rr(n string, typ, ttl int, data string) api.RR {
	return api.RR{Name: wire(n), Type: typ, Class: 1, TTL: ttl, Data: data}
}

func four(n, data string) api.RR    { return rr(n, a, 14, data) }
func six(n string) api.RR           { return rr(n, aaaa, 16, "abcdefghijklmnop") }
func text(n string) api.RR          { return rr(n, txt, 11, "\x02TX") }
func server(n, host string) api.RR  { return rr(n, ns, 12, wire(host)) }
func alias(n, target string) api.RR { return rr(n, cname, 13, wire(target)) }

// soaWith returns an SOA record of A. with this TTL and Minimum.
func soaWith(ttl int, minimum uint32) api.RR {
	data, _ := rdata.Data(rdata.SOA{M: wire("M.a"), R: wire("r"), Serial: 1, Refresh: 2, Retry: 3, Expire: 4, Minimum: minimum})
	return rr("A", soa, ttl, data)
}

var (
	soaOfA = soaWith(7, 5)
	noSoa  = soaWith(5, 5)
	nsOfA  = server("a", "n.d.a")
)

// swap exchanges capital and small letters.
func swap(s string) string {
	b := []byte(s)
	for i, c := range b {
		if 'a' <= c|0x20 && c|0x20 <= 'z' {
			b[i] ^= 0x20
		}
	}
	return string(b)
}

func makeZone(t *testing.T, apex string, l []api.RR) zone.Zone {
	t.Helper()
	z, e := zone.New(apex, l)
	if e != api.OK {
		t.Fatalf("New(%q, %s): %d", apex, told(l), e)
	}
	return z
}

// zoneOf returns the zone a. with these records, the SOA and one NS record, and what the model has of it.
func zoneOf(t *testing.T, l ...api.RR) (zone.Zone, model) {
	t.Helper()
	z := makeZone(t, apex, slices.Concat(l, []api.RR{soaOfA, nsOfA}))
	return z, model{apex: apex, set: z.All()}
}

// renamed returns the records with another name.
func renamed(n string, l ...api.RR) []api.RR {
	k := slices.Clone(l)
	for i := range k {
		k[i].Name = wire(n)
	}
	return k
}

func list(l ...api.RR) []api.RR {
	return l
}

// spoil writes over a list that was returned, and what capacity it has.
func spoil(l []api.RR) {
	l = l[:cap(l)]
	for i := range l {
		l[i] = scribble
	}
}

func told(l []api.RR) string {
	s := fmt.Sprintf("%d:", len(l))
	for _, r := range l {
		s += fmt.Sprintf(" {%q %d %d TTL %d %q}", r.Name, r.Type, r.Class, r.TTL, r.Data)
	}
	return s
}

func toldAnswer(x lookup.Answer) string {
	return fmt.Sprintf("code %d, AA %v, An %s, Ns %s, Ad %s", x.Rcode, x.AA, told(x.An), told(x.Ns), told(x.Ad))
}

func sections(answer lookup.Answer) [][]api.RR {
	return [][]api.RR{answer.An, answer.Ns, answer.Ad}
}

func same(x, y lookup.Answer) bool {
	return x.Rcode == y.Rcode && x.AA == y.AA && slices.EqualFunc(sections(x), sections(y), slices.Equal)
}

func copied(x lookup.Answer) lookup.Answer {
	return lookup.Answer{Rcode: x.Rcode, AA: x.AA, An: slices.Clone(x.An), Ns: slices.Clone(x.Ns), Ad: slices.Clone(x.Ad)}
}

func checkCut(t *testing.T, z zone.Zone, n, want string) {
	t.Helper()
	if got, ok := lookup.Cut(z, n); got != want || ok != (want != "") {
		t.Errorf("Cut(%q) = %q, %v; want %q", n, got, ok, want)
	}
}

func checkClosest(t *testing.T, z zone.Zone, n, want string) {
	t.Helper()
	if got, ok := lookup.Closest(z, n); got != want || ok != (want != "") {
		t.Errorf("Closest(%q) = %q, %v; want %q", n, got, ok, want)
	}
}

// checkFind asks twice, and writes over the first answer.
func checkFind(t *testing.T, z zone.Zone, n string, want []api.RR, wantOK bool) {
	t.Helper()
	for range 2 {
		got, ok := lookup.Find(z, n)
		if !slices.Equal(got, want) || ok != wantOK {
			t.Errorf("Find(%q) = %s, %v; want %s, %v", n, told(got), ok, told(want), wantOK)
		}
		spoil(got)
	}
}

// checkAsk asks twice, writes over the sections of the first answer, and looks whether that changes another one.
func checkAsk(t *testing.T, z zone.Zone, n string, typ int, want lookup.Answer) {
	t.Helper()
	for range 2 {
		got := lookup.Ask(z, n, typ)
		if !same(got, want) {
			t.Errorf("Ask(%q, %d) = %s; want %s", n, typ, toldAnswer(got), toldAnswer(want))
			return
		}
		for i, l := range sections(got) {
			spoil(l)
			if !slices.EqualFunc(sections(got)[i+1:], sections(want)[i+1:], slices.Equal) {
				t.Errorf("Ask(%q, %d): section %d shares memory", n, typ, i)
			}
		}
	}
}

func checkKept(t *testing.T, z zone.Zone, m model) {
	t.Helper()
	if !slices.Equal(z.All(), m.set) || z.Apex() != m.apex {
		t.Errorf("the zone %q %s became %q %s", m.apex, told(m.set), z.Apex(), told(z.All()))
	}
}

// checkName holds all that is told of a name against the model.
func checkName(t *testing.T, z zone.Zone, m model, n string, types []int) {
	t.Helper()
	cut, _ := m.cut(n)
	checkCut(t, z, n, cut)
	closest, _ := m.closest(n)
	checkClosest(t, z, n, closest)
	l, ok := m.find(n)
	checkFind(t, z, n, l, ok)
	for _, typ := range types {
		checkAsk(t, z, n, typ, m.ask([]string{n}, typ, nil))
	}
}

// P15.1

// The first of several cuts on the way down counts, also if it comes last in the order of records.
func TestCut(t *testing.T) {
	z, m := zoneOf(t,
		server("d.a", "n.d.a"), server("d.a", "b"), four("n.d.a", "glue"), four("y.x.d.a", "deep"), server("e.d.a", "b"),
		server("k.j.a", "b"), server("i.h.k.j.a", "b"), text("j.a"), text("f.a"), text("x.f.a"),
		server("s.R.q.a", "b"), server("Z.a", "b"), server("b.z.a", "b"),
	)
	for n, want := range map[string]string{
		"d.a": "d.a", "n.d.a": "d.a", "y.x.d.a": "d.a", "x.d.a": "d.a", "q.d.a": "d.a", "q.q.q.d.a": "d.a", "z.y.x.d.a": "d.a",
		"e.d.a": "d.a", "x.e.d.a": "d.a", "d.d.a": "d.a", "a.d.a": "d.a", "*.d.a": "d.a",
		"k.j.a": "k.j.a", "i.h.k.j.a": "k.j.a", "h.k.j.a": "k.j.a", "x.i.h.k.j.a": "k.j.a", "k.k.j.a": "k.j.a",
		"s.r.q.a": "s.r.q.a", "x.s.r.q.a": "s.r.q.a", "z.a": "z.a", "b.z.a": "z.a", "x.b.z.a": "z.a",
	} {
		checkCut(t, z, wire(n), wire(want))
		checkCut(t, z, swap(wire(n)), swap(wire(want)))
	}
	checkCut(t, z, wire("Q.n.D.a"), wire("D.a"))
	checkCut(t, z, wire("N.d.A"), wire("d.A"))
	for _, n := range []string{
		"a", "A", "j.a", "f.a", "x.f.a", "y.x.f.a", "r.q.a", "q.a", "x.q.a", "g.a", "n.a", "h.a", "i.h.a", "h.j.a", "x.r.q.a",
		"dd.a", "x.dd.a", "s.a", "s.q.a", "r.s.q.a", "d.j.a", "a.a", "d.a.a", "*.a", "x.*.a",
	} {
		checkCut(t, z, wire(n), "")
		checkCut(t, z, swap(wire(n)), "")
	}
	checkCut(t, z, "\x03x\x01d\x01a\x00", "") // it ends in the bytes of d.a, but is a name of two labels
	checkKept(t, z, m)
}

// Records of other types are no cut, wherever they stand, and NS records under a name are none of the name.
func TestOnlyNsRecordsAreACut(t *testing.T) {
	l := []api.RR{server("d.c.b.a", "b")}
	for _, r := range []api.RR{four("x", "abcd"), alias("x", "b"), rr("x", mx, 9, "ab"+wire("b")), text("x"), six("x"), rr("x", 3, 9, root), rr("x", 258, 9, root), rr("x", 65535, 9, root)} {
		r.Name = fmt.Sprintf("\x06t%05d", r.Type) + apex
		l = append(l, r)
	}
	z, _ := zoneOf(t, l...)
	for _, r := range l[1:] {
		checkCut(t, z, r.Name, "")
		checkCut(t, z, "\x01x"+r.Name, "")
	}
	checkCut(t, z, wire("b.a"), "")
	checkCut(t, z, wire("c.b.a"), "")
	checkCut(t, z, wire("d.c.b.a"), wire("d.c.b.a"))
}

// A wildcard is a cut of itself and of the names under it, but not of those that it covers.
func TestNsRecordsOfAWildcard(t *testing.T) {
	star := server("*.w.a", "x.*.w.a")
	z, m := zoneOf(t, star, four("x.*.w.a", "glue"))
	checkCut(t, z, wire("*.w.a"), wire("*.w.a"))
	checkCut(t, z, wire("x.*.W.a"), wire("*.W.a"))
	checkCut(t, z, wire("q.w.a"), "")
	checkCut(t, z, wire("w.a"), "")
	checkFind(t, z, wire("q.w.a"), renamed("q.w.a", star), true)
	checkAsk(t, z, wire("q.w.a"), ns, lookup.Answer{AA: true, An: renamed("q.w.a", star)})
	checkAsk(t, z, wire("q.w.a"), a, lookup.Answer{AA: true, Ns: list(noSoa)})
	checkAsk(t, z, wire("*.w.a"), ns, lookup.Answer{Ns: list(star), Ad: list(four("x.*.w.a", "glue"))})
	checkKept(t, z, m)
}

func TestClosest(t *testing.T) {
	z, m := zoneOf(t,
		text("b.a"), text("c.B.a"), four("f.e.d.c.b.a", "abcd"), text("z.Y.x.a"), text("*.w.a"), text("u.*.v.a"), server("s.a", "b"), text("q.s.a"), alias("l.a", "b"),
	)
	for n, want := range map[string]string{
		"b.a": "a", "x.a": "a", "q.a": "a", "a.a": "a", "z.a": "a", "*.a": "a", "w.a": "a", "v.a": "a", "c.a": "a", "q.q.q.q.a": "a", "b.q.a": "a", "c.b.q.a": "a", "y.a": "a", "z.y.a": "a", "bb.a": "a", "x.bb.a": "a",
		"c.b.a": "b.a", "q.b.a": "b.a", "q.q.b.a": "b.a", "b.b.a": "b.a", "d.b.a": "b.a", "e.d.b.a": "b.a", "*.b.a": "b.a",
		"d.c.b.a": "c.b.a", "q.c.b.a": "c.b.a", "e.c.b.a": "c.b.a", "q.q.c.b.a": "c.b.a",
		"e.d.c.b.a": "d.c.b.a", "f.d.c.b.a": "d.c.b.a", "q.q.d.c.b.a": "d.c.b.a",
		"f.e.d.c.b.a": "e.d.c.b.a", "q.e.d.c.b.a": "e.d.c.b.a", "q.f.e.d.c.b.a": "f.e.d.c.b.a", "q.q.q.f.e.d.c.b.a": "f.e.d.c.b.a",
		"y.x.a": "x.a", "z.x.a": "x.a", "q.q.x.a": "x.a", "z.y.x.a": "y.x.a", "q.y.x.a": "y.x.a", "q.z.y.x.a": "z.y.x.a",
		"*.w.a": "w.a", "q.w.a": "w.a", "q.q.w.a": "w.a", "q.*.w.a": "*.w.a", "*.*.w.a": "*.w.a",
		"*.v.a": "v.a", "q.v.a": "v.a", "u.*.v.a": "*.v.a", "q.*.v.a": "*.v.a", "q.u.*.v.a": "u.*.v.a",
		"s.a": "a", "q.s.a": "s.a", "r.s.a": "s.a", "r.q.s.a": "q.s.a", "q.l.a": "l.a", "q.q.l.a": "l.a",
	} {
		checkClosest(t, z, wire(n), wire(want))
		checkClosest(t, z, swap(wire(n)), swap(wire(want)))
	}
	checkClosest(t, z, wire("Q.q.X.A"), wire("X.A"))
	checkClosest(t, z, wire("q.C.b.A"), wire("C.b.A"))
	checkClosest(t, z, wire("a"), "")
	checkClosest(t, z, wire("A"), "")
	checkClosest(t, z, "\x03x\x01b\x01a\x00", apex) // it ends in the bytes of b.a, but is a name of two labels
	checkKept(t, z, m)
}

// notUnder are names that are not under a.
var notUnder = []string{root, "\x01b\x00", "\x01A\x01b\x00", "\x02aa\x00", "\x01x\x01b\x00", "\x01a\x01x\x00", "\x01`\x00", "\x01\x00\x00", "\x01\xff\x00", "\x03x\x01a\x00", "\x03x\x01A\x00", "\x02\x01a\x00", "\x01b\x02\x01a\x00", "\x01*\x00"}

func TestNamesThatAreNotUnderTheApex(t *testing.T) {
	z, m := zoneOf(t, four("*.a", "star"), four("x.a", "abcd"), server("d.a", "n.d.a"))
	for _, n := range slices.Concat(notUnder, wrongNames) {
		checkCut(t, z, n, "")
		checkClosest(t, z, n, "")
		checkFind(t, z, n, nil, false)
		for _, typ := range []int{a, ns, cname, soa, every, 0, -1, 65536} {
			checkAsk(t, z, n, typ, lookup.Answer{Rcode: api.Refused})
		}
	}
	checkKept(t, z, m)
}

// The names above a deep apex are empty, but not in the zone.
func TestADeepApex(t *testing.T) {
	deep := wire("c.B.a")
	top, servers := rr("C.b.a", soa, 9, soaOfA.Data), server("c.b.A", "n.d.c.b.a")
	cut, glue, star := server("D.c.b.a", "n.d.c.b.a"), four("n.d.c.b.a", "glue"), four("*.c.b.a", "star")
	z := makeZone(t, deep, []api.RR{top, servers, cut, glue, star, alias("l.c.b.a", "x.b.a")})
	m := model{apex: deep, set: z.All()}
	for _, n := range []string{root, wire("a"), wire("b.a"), wire("B.a"), wire("x.b.a"), wire("c.a"), wire("c.b"), wire("*.b.a"), wire("cc.b.a"), "\x03x\x01c\x01b\x01a\x00"} {
		checkCut(t, z, n, "")
		checkClosest(t, z, n, "")
		checkFind(t, z, n, nil, false)
		checkAsk(t, z, n, a, lookup.Answer{Rcode: api.Refused})
		checkAsk(t, z, n, every, lookup.Answer{Rcode: api.Refused})
	}
	for _, n := range []string{"c.b.a", "C.B.A", "c.B.a"} {
		checkCut(t, z, wire(n), "")
		checkClosest(t, z, wire(n), "")
		checkFind(t, z, wire(n), list(servers, top), true)
		checkAsk(t, z, wire(n), ns, lookup.Answer{AA: true, An: list(servers)})
	}
	checkClosest(t, z, wire("x.C.b.A"), wire("C.b.A"))
	checkCut(t, z, wire("x.d.C.b.A"), wire("d.C.b.A"))
	checkAsk(t, z, wire("x.C.b.A"), a, lookup.Answer{AA: true, An: renamed("x.C.b.A", star)})
	checkAsk(t, z, wire("x.d.C.b.A"), a, lookup.Answer{Ns: list(cut), Ad: list(glue)})
	checkAsk(t, z, wire("l.c.b.a"), a, lookup.Answer{AA: true, An: list(alias("l.c.b.a", "x.b.a"))})
	checkKept(t, z, m)
}

func TestTheRootAsTheApex(t *testing.T) {
	top, servers := rr("", soa, 9, soaOfA.Data), server("", "n")
	cut, star, loop := server("d", "n.d"), four("*", "star"), alias("l", "")
	z := makeZone(t, root, []api.RR{top, servers, cut, star, loop, text("x.y")})
	no := top
	no.TTL = 5
	checkCut(t, z, root, "")
	checkClosest(t, z, root, "")
	checkFind(t, z, root, list(servers, top), true)
	checkAsk(t, z, root, every, lookup.Answer{AA: true, An: list(servers, top)})
	checkClosest(t, z, wire("q"), root)
	checkClosest(t, z, wire("q.q.Y"), wire("Y"))
	checkCut(t, z, wire("q.D"), wire("D"))
	checkFind(t, z, wire("q.q"), renamed("q.q", star), true)
	checkFind(t, z, wire("q.y"), nil, false)
	checkAsk(t, z, wire("q"), a, lookup.Answer{AA: true, An: renamed("q", star)})
	checkAsk(t, z, wire("l"), ns, lookup.Answer{AA: true, An: list(loop, servers)})
	checkAsk(t, z, wire("l"), a, lookup.Answer{AA: true, An: list(loop), Ns: list(no)})
	checkAsk(t, z, wire("d"), a, lookup.Answer{Ns: list(cut)})
	for _, n := range wrongNames {
		checkAsk(t, z, n, a, lookup.Answer{Rcode: api.Refused})
		checkFind(t, z, n, nil, false)
	}
	checkKept(t, z, model{apex: root, set: z.All()})
}

func TestNo(t *testing.T) {
	for _, c := range []struct {
		ttl     int
		minimum uint32
		want    int
	}{
		{7, 5, 5}, {7, 6, 6}, {7, 7, 7}, {7, 8, 7}, {7, 9, 7}, {0, 0, 0}, {0, 5, 0}, {5, 0, 0}, {0, 1, 0}, {1, 0, 0}, {1, 1, 1},
		{256, 255, 255}, {255, 256, 255}, {65536, 65535, 65535}, {70000, 69999, 69999},
		{api.MaxTTL, api.MaxTTL, api.MaxTTL}, {api.MaxTTL, api.MaxTTL - 1, api.MaxTTL - 1}, {api.MaxTTL - 1, api.MaxTTL, api.MaxTTL - 1},
		{api.MaxTTL, 1 << 31, api.MaxTTL}, {api.MaxTTL, math.MaxUint32, api.MaxTTL}, {5, 1 << 31, 5}, {5, math.MaxUint32, 5}, {0, math.MaxUint32, 0}, {0, 1 << 31, 0},
	} {
		r := soaWith(c.ttl, c.minimum)
		l := []api.RR{r, nsOfA, text("x.a")}
		z := makeZone(t, apex, l)
		want := r
		want.TTL = c.want
		for range 2 {
			if got := lookup.No(z); got != want {
				t.Errorf("No with TTL %d and Minimum %d is %s; want %s", c.ttl, c.minimum, told(list(got)), told(list(want)))
			}
		}
		checkAsk(t, z, wire("x.a"), a, lookup.Answer{AA: true, Ns: list(want)})
		checkAsk(t, z, wire("y.a"), a, lookup.Answer{Rcode: api.NXDomain, AA: true, Ns: list(want)})
		checkAsk(t, z, wire("a"), soa, lookup.Answer{AA: true, An: list(r)}) // not the negative one
		if got, _ := z.Soa(); got != r {
			t.Errorf("the SOA record %s became %s", told(list(r)), told(list(got)))
		}
		serial := z.WithSerial(77)
		if got, want := lookup.No(serial), (model{apex: apex, set: serial.All()}).no(); got != want || got.Data == r.Data {
			t.Errorf("No with another serial is %s; want %s", told(list(got)), told(list(want)))
		}
	}
}

// P15.2

var starOfW = list(four("*.W.a", "aaaa"), rr("*.W.a", a, 15, "bbbb"), rr("*.w.A", mx, 16, "ab"+wire("*.w.a")), text("*.w.a"))

func zoneOfWildcards(t *testing.T) (zone.Zone, model) {
	t.Helper()
	return zoneOf(t, append(slices.Clone(starOfW),
		text("x.w.a"), text("z.y.w.a"), text("n.*.V.a"), text("c.a"), alias("*.l.a", "b"), text("*.*.m.a"), text("**.k.a"), text("*k.k.a"), text("s.*.w.a"))...)
}

func TestFind(t *testing.T) {
	z, m := zoneOfWildcards(t)
	for _, n := range []string{"a", "A"} {
		checkFind(t, z, wire(n), list(nsOfA, soaOfA), true)
	}
	for _, n := range []string{"x.w.a", "X.w.A"} {
		checkFind(t, z, wire(n), list(text("x.w.a")), true)
	}
	checkFind(t, z, wire("z.Y.w.a"), list(text("z.y.w.a")), true)
	for _, n := range []string{"w.a", "W.A", "y.w.a", "v.a", "*.v.a", "*.V.A", "l.a", "m.a", "*.m.a", "k.a"} {
		checkFind(t, z, wire(n), nil, true)
	}
	// Covered by a wildcard, with the name as it was asked for.
	for _, n := range []string{"q.w.a", "Q.w.a", "q.W.A", "q.q.w.a", "x.Q.q.w.a", "xx.w.a", "*.q.w.a", "q.*.q.w.a", "**.w.a", "x.x.x.x.x.q.w.a", "a.w.a", "w.w.a"} {
		checkFind(t, z, wire(n), renamed(n, starOfW...), true)
	}
	checkFind(t, z, wire("q.L.a"), list(alias("q.L.a", "b")), true)
	checkFind(t, z, wire("q.*.M.a"), list(text("q.*.M.a")), true)
	// The wildcard's own name.
	for _, n := range []string{"*.w.a", "*.W.A"} {
		checkFind(t, z, wire(n), starOfW, true)
	}
	checkFind(t, z, wire("*.*.m.a"), list(text("*.*.m.a")), true)
	checkFind(t, z, wire("**.k.a"), list(text("**.k.a")), true)
	// Neither there, nor empty, nor covered.
	for _, n := range []string{
		"q.a", "*.a", "q.q.a", "q.c.a", "*.c.a", // no wildcard
		"q.x.w.a", "*.x.w.a", "q.q.x.w.a", "q.y.w.a", "*.y.w.a", "q.z.y.w.a", // one under an ancestor that is not the closest encloser
		"q.*.w.a", "*.*.w.a", "q.s.*.w.a", // under the wildcard
		"q.v.a", "Q.V.a", "q.q.v.a", "m.*.v.a", "*.*.v.a", // one that is only empty
		"q.m.a", "q.q.m.a", // the same, and one under it does not count
		"q.k.a", "*.k.a", // labels of more bytes are no "*"
	} {
		checkFind(t, z, wire(n), nil, false)
		checkFind(t, z, swap(wire(n)), nil, false)
	}
	checkKept(t, z, m)
}

func TestAWildcardAtTheApex(t *testing.T) {
	star, inner := four("*.a", "star"), text("x.a")
	z, m := zoneOf(t, star, inner, text("y.e.a"))
	checkFind(t, z, wire("q.a"), renamed("q.a", star), true)
	checkFind(t, z, wire("q.r.a"), renamed("q.r.a", star), true)
	checkFind(t, z, wire("q.A"), renamed("q.A", star), true)
	checkFind(t, z, wire("a"), list(nsOfA, soaOfA), true)
	checkFind(t, z, wire("x.a"), list(inner), true)
	checkFind(t, z, wire("e.a"), nil, true)
	checkFind(t, z, wire("q.x.a"), nil, false)
	checkFind(t, z, wire("q.e.a"), nil, false)
	checkFind(t, z, wire("*.x.a"), nil, false)
	checkKept(t, z, m)
}

// Find does not look at cuts.
func TestFindBelowACut(t *testing.T) {
	cut, glue, star := server("d.a", "n.d.a"), four("n.d.a", "glue"), four("*.d.a", "star")
	z, _ := zoneOf(t, cut, glue, star)
	checkFind(t, z, wire("d.a"), list(cut), true)
	checkFind(t, z, wire("n.d.a"), list(glue), true)
	checkFind(t, z, wire("q.d.a"), renamed("q.d.a", star), true)
	checkAsk(t, z, wire("q.d.a"), a, lookup.Answer{Ns: list(cut), Ad: list(glue)})
}

// Every name that a wildcard covers is at least as long as it, so that the wildcard is always a name; the longest ones are.
func TestLongNames(t *testing.T) {
	for _, first := range []string{"b", "bb", "bbb"} {
		n := wire(first + strings.Repeat(".y", 124) + ".a") // 253 to 255 bytes
		inner := rr("x", txt, 9, "\x01x")
		inner.Name = n
		star := four("x", "star")
		star.Name = "\x01*" + n
		l := []api.RR{inner}
		if len(star.Name) <= 255 {
			l = append(l, star)
		}
		z, m := zoneOf(t, l...)
		for _, label := range []string{"\x01q", "\x01Q", "\x02qq", "\x03qqq"} {
			long := label + n
			if len(long) > 255 {
				checkFind(t, z, long, nil, false)
				checkClosest(t, z, long, "")
				checkAsk(t, z, long, a, lookup.Answer{Rcode: api.Refused})
				continue
			}
			want := star
			want.Name = long
			checkFind(t, z, long, list(want), true)
			checkClosest(t, z, long, n)
			checkAsk(t, z, swap(long), a, m.ask([]string{swap(long)}, a, nil))
		}
		checkFind(t, z, n, list(inner), true)
		checkFind(t, z, n[1+len(first):], nil, true)
		checkClosest(t, z, n, n[1+len(first):])
		checkKept(t, z, m)
	}
	// Names of 255 bytes far below what they are found by.
	star, cut := four("*.a", "star"), server("d.a", "b")
	z, m := zoneOf(t, star, cut)
	for _, n := range []string{strings.Repeat("y.", 126) + "a", strings.Repeat("y.", 124) + "xxx.a"} {
		checkClosest(t, z, wire(n), apex)
		checkCut(t, z, wire(n), "")
		checkFind(t, z, wire(n), renamed(n, star), true)
		checkAsk(t, z, wire(n), a, lookup.Answer{AA: true, An: renamed(n, star)})
	}
	below := wire(strings.Repeat("y.", 125) + "D.a")
	checkClosest(t, z, below, wire("D.a"))
	checkCut(t, z, below, wire("D.a"))
	checkFind(t, z, below, nil, false)
	checkAsk(t, z, below, a, lookup.Answer{Ns: list(cut)})
	checkKept(t, z, m)
}

// P15.3

func TestRefused(t *testing.T) {
	z, _ := zoneOf(t, four("*.a", "star"))
	for _, n := range []string{root, wire("b"), wire("x.b"), "", "x", "\x01x\x01a", "\x03x\x01a\x00"} {
		got := lookup.Ask(z, n, a)
		if got.Rcode != api.Refused || got.AA || len(got.An)+len(got.Ns)+len(got.Ad) > 0 {
			t.Errorf("Ask(%q) = %s", n, toldAnswer(got))
		}
	}
}

// hosts are the names in the NS records of d.a, in the order of the records: that of the bytes of the data.
var hosts = []string{"", "a", "b.a", "D.a", "l.d.a", "m.e.d.A", "N.d.a", "O.D.A", "w.d.a", "x.b", "xd.a"}

func zoneWithACut(t *testing.T) (zone.Zone, model, []api.RR, []api.RR) {
	t.Helper()
	var servers []api.RR
	for i, host := range hosts {
		servers = append(servers, rr("d.a", ns, 20+i, wire(host)))
	}
	glue := list(four("d.A", "cut "), six("l.d.a"), six("M.e.d.a"), four("N.D.a", "one "), four("n.d.a", "two "), six("n.D.a"))
	others := list(
		four("a", "apex"), four("b.a", "side"), four("xd.a", "end "), text("n.d.a"), four("x.n.d.a", "deep"), four("z.d.a", "none"),
		alias("o.d.a", "n.d.a"), four("*.d.a", "star"), server("e.d.a", "m.e.d.a"), four("\x01d.a", "odd "),
		alias("i.a", "X.d.a"), alias("j.a", "i.a"), alias("c.d.a", "b.a"), server("f.a", "n.d.a"), four("x.f.a", "none"),
	)
	z, m := zoneOf(t, slices.Concat(servers, glue, others)...)
	return z, m, servers, glue
}

func TestACut(t *testing.T) {
	z, m, servers, glue := zoneWithACut(t)
	want := lookup.Answer{Ns: servers, Ad: glue}
	for _, n := range []string{"d.a", "D.A", "x.d.a", "X.D.A", "n.d.a", "m.e.d.a", "e.d.a", "q.e.d.a", "w.d.a", "*.d.a", "c.d.a", "q.q.q.d.a"} {
		for _, typ := range []int{a, ns, cname, soa, txt, aaaa, every, 0, -1, 41, 65536} {
			checkAsk(t, z, wire(n), typ, want)
		}
	}
	// An alias leads there: the answer has records, and so it is authoritative.
	want.AA = true
	want.An = list(alias("i.a", "X.d.a"))
	checkAsk(t, z, wire("i.a"), a, want)
	checkAsk(t, z, wire("i.a"), ns, want)
	want.An = list(alias("j.a", "i.a"), alias("i.a", "X.d.a"))
	checkAsk(t, z, wire("j.a"), a, want)
	checkAsk(t, z, wire("j.a"), soa, want)
	// A server whose name is not under its own cut, but under another one.
	checkAsk(t, z, wire("f.a"), a, lookup.Answer{Ns: list(server("f.a", "n.d.a"))})
	checkAsk(t, z, wire("x.f.a"), every, lookup.Answer{Ns: list(server("f.a", "n.d.a"))})
	checkKept(t, z, m)
}

func TestACutWithOneRecord(t *testing.T) {
	cut := server("D.a", "N.d.A")
	one, two, six1, six2 := four("n.d.a", "1111"), four("n.d.a", "2222"), six("N.D.A"), rr("n.d.a", aaaa, 3, "ABCDEFGHIJKLMNOP")
	for _, c := range []struct{ given, want []api.RR }{
		{nil, nil},
		{list(one), list(one)},
		{list(six1), list(six1)},
		{list(six1, one), list(one, six1)},
		{list(six1, two, six2, one), list(one, two, six2, six1)},
		{list(text("n.d.a")), nil},
		{list(four("x.n.d.a", "abcd")), nil},
		{list(alias("n.d.a", "x.d.a"), four("x.d.a", "abcd")), nil},
	} {
		z, m := zoneOf(t, append(slices.Clone(c.given), cut)...)
		for _, n := range []string{"d.a", "D.A", "n.d.a", "q.D.a"} {
			checkAsk(t, z, wire(n), a, lookup.Answer{Ns: list(cut), Ad: c.want})
			checkAsk(t, z, wire(n), every, lookup.Answer{Ns: list(cut), Ad: c.want})
		}
		checkKept(t, z, m)
	}
}

// Of NS records that name the same name in another case the zone has one, and its addresses are told once.
func TestServersInAnotherCase(t *testing.T) {
	first, last, other := server("d.a", "n.d.a"), server("D.A", "N.d.A"), server("D.a", "O.D.a")
	glue := list(four("n.D.a", "1111"), six("N.d.a"), four("o.d.A", "2222"))
	z, m := zoneOf(t, append(slices.Clone(glue), first, other, last)...)
	for _, n := range []string{"d.a", "q.D.a"} {
		checkAsk(t, z, wire(n), a, lookup.Answer{Ns: list(last, other), Ad: glue})
	}
	checkKept(t, z, m)
}

// At each server of a cut the A records come before the AAAA records, and the next server follows.
func TestTheOrderOfAddresses(t *testing.T) {
	cut1, cut2, cut3 := server("d.a", "z.d.a"), server("d.a", "yy.d.a"), server("d.a", "d.a")
	l := list(
		four("z.d.a", "1   "), four("z.d.a", "2   "), six("z.d.a"),
		six("yy.d.a"), four("yy.d.a", "3   "),
		six("d.a"), four("d.a", "4   "),
	)
	z, _ := zoneOf(t, append(slices.Clone(l), cut1, cut2, cut3)...)
	// The data is ordered bytewise, and begins with the length of a label.
	want := lookup.Answer{Ns: list(cut3, cut1, cut2), Ad: list(l[6], l[5], l[0], l[1], l[2], l[4], l[3])}
	checkAsk(t, z, wire("x.d.a"), txt, want)
}

func TestNXDomain(t *testing.T) {
	z, m := zoneOf(t, text("x.a"), alias("l.a", "q.a"), alias("k.a", "L.a"), text("*.x.w.a"), alias("*.v.a", "q.x.a"), text("n.*.a"))
	for _, n := range []string{"q.a", "Q.A", "q.x.a", "q.w.a", "*.x.a", "q.q.q.a", "m.*.a"} {
		for _, typ := range []int{a, ns, cname, soa, every, 0, -1, 41, 251, 65536} {
			checkAsk(t, z, wire(n), typ, lookup.Answer{Rcode: api.NXDomain, AA: true, Ns: list(noSoa)})
		}
	}
	// Behind an alias its record stays.
	checkAsk(t, z, wire("l.a"), a, lookup.Answer{Rcode: api.NXDomain, AA: true, An: list(alias("l.a", "q.a")), Ns: list(noSoa)})
	checkAsk(t, z, wire("K.a"), ns, lookup.Answer{Rcode: api.NXDomain, AA: true, An: list(alias("k.a", "L.a"), alias("l.a", "q.a")), Ns: list(noSoa)})
	checkAsk(t, z, wire("r.V.a"), a, lookup.Answer{Rcode: api.NXDomain, AA: true, An: list(alias("r.V.a", "q.x.a")), Ns: list(noSoa)})
	checkKept(t, z, m)
}

func TestAny(t *testing.T) {
	several := list(four("x.a", "1111"), rr("X.a", a, 5, "2222"), rr("x.A", mx, 6, "ab\x00"), text("x.a"), six("x.a"), rr("x.a", 300, 0, ""))
	star := list(four("*.w.a", "star"), text("*.w.a"))
	z, m := zoneOf(t, slices.Concat(several, star, list(alias("l.a", "x.a"), alias("*.v.a", "x.a"), text("y.e.a")))...)
	checkAsk(t, z, wire("x.a"), every, lookup.Answer{AA: true, An: several})
	checkAsk(t, z, wire("X.A"), every, lookup.Answer{AA: true, An: several})
	checkAsk(t, z, wire("A"), every, lookup.Answer{AA: true, An: list(nsOfA, soaOfA)})
	checkAsk(t, z, wire("l.a"), every, lookup.Answer{AA: true, An: list(alias("l.a", "x.a"))})
	checkAsk(t, z, wire("q.V.a"), every, lookup.Answer{AA: true, An: list(alias("q.V.a", "x.a"))})
	checkAsk(t, z, wire("Q.w.a"), every, lookup.Answer{AA: true, An: renamed("Q.w.a", star...)})
	checkAsk(t, z, wire("*.w.a"), every, lookup.Answer{AA: true, An: star})
	// An empty name has nothing, and no SOA tells so.
	for _, n := range []string{"e.a", "w.a", "V.a"} {
		checkAsk(t, z, wire(n), every, lookup.Answer{AA: true})
	}
	checkAsk(t, z, wire("q.e.a"), every, lookup.Answer{Rcode: api.NXDomain, AA: true, Ns: list(noSoa)})
	// Only 255 itself is any type.
	for _, typ := range []int{-1, 0, 254, 256, 255 + 65536, 255 + 1<<32, -255, -256 + 255} {
		checkAsk(t, z, wire("x.a"), typ, lookup.Answer{AA: true, Ns: list(noSoa)})
	}
	checkKept(t, z, m)
}

func TestTypes(t *testing.T) {
	l := list(four("x.a", "1111"), four("X.a", "2222"), rr("x.a", mx, 6, "ab\x00"), text("x.a"), rr("x.A", 300, 0, ""), rr("x.a", 300, 1, "\x00"), rr("x.a", 65535, 2, ""))
	star := list(four("*.w.a", "star"), text("*.w.a"))
	z, m := zoneOf(t, slices.Concat(l, star, list(text("y.e.a"), server("d.a", "b")))...)
	for typ, want := range map[int][]api.RR{a: l[:2], mx: l[2:3], txt: l[3:4], 300: l[4:6], 65535: l[6:]} {
		checkAsk(t, z, wire("x.a"), typ, lookup.Answer{AA: true, An: want})
		checkAsk(t, z, wire("X.A"), typ, lookup.Answer{AA: true, An: want})
	}
	checkAsk(t, z, wire("A"), ns, lookup.Answer{AA: true, An: list(nsOfA)})
	checkAsk(t, z, wire("a"), soa, lookup.Answer{AA: true, An: list(soaOfA)})
	checkAsk(t, z, wire("Q.w.a"), a, lookup.Answer{AA: true, An: renamed("Q.w.a", star[0])})
	checkAsk(t, z, wire("q.W.a"), txt, lookup.Answer{AA: true, An: renamed("q.W.a", star[1])})
	checkAsk(t, z, wire("*.w.a"), txt, lookup.Answer{AA: true, An: star[1:]})
	none := lookup.Answer{AA: true, Ns: list(noSoa)}
	for _, typ := range []int{ns, cname, soa, aaaa, 33, 41, 128, 251, 252, 253, 254, 256, 65534, 0, -1, 65536, 65536 + a, 65536 + txt, 1<<32 + a, 1<<32 + txt, 300 - 65536, math.MinInt, math.MaxInt} {
		for _, n := range []string{"x.a", "q.w.a", "*.w.a", "w.a", "e.a"} {
			checkAsk(t, z, wire(n), typ, none)
		}
	}
	for _, typ := range []int{a, txt, cname, mx} {
		checkAsk(t, z, wire("a"), typ, none)
		checkAsk(t, z, wire("E.a"), typ, none)
	}
	checkKept(t, z, m)
}

func TestAliases(t *testing.T) {
	one, two := four("x.a", "1111"), four("x.a", "2222")
	to := func(n, target string) api.RR { return alias(n, target) }
	l := list(
		one, two, text("x.a"), text("y.e.a"), server("d.a", "n.d.a"), four("n.d.a", "glue"), four("*.w.a", "star"), to("*.v.a", "X.a"),
		to("x1.a", "X.A"), to("e1.a", "E.a"), to("q1.a", "q.a"), to("d1.a", "z.d.a"), to("b1.a", "b"), to("r1.a", ""), to("xa.a", "xa"),
		to("w1.a", "Q.w.a"), to("t1.a", "A"), to("L1.a", "l1.A"), to("c1.a", "C2.a"), to("c2.a", "C1.a"), to("r2.a", "r3.a"), to("r3.a", "r4.a"), to("r4.a", "R3.a"),
		to("v1.a", "q.v.a"), to("*.u.a", "z.u.a"), to("y1.a", "x1.a"), to("b2.a", "b1.a"), to("x1.x.a", "x1.a"),
	)
	z, m := zoneOf(t, l...)
	star := renamed("Q.w.a", four("*.w.a", "star"))
	cut := lookup.Answer{AA: true, An: list(to("d1.a", "z.d.a")), Ns: list(server("d.a", "n.d.a")), Ad: list(four("n.d.a", "glue"))}
	for _, c := range []struct {
		n    string
		typ  int
		want lookup.Answer
	}{
		{"x1.a", a, lookup.Answer{AA: true, An: list(to("x1.a", "X.A"), one, two)}},
		{"X1.A", txt, lookup.Answer{AA: true, An: list(to("x1.a", "X.A"), text("x.a"))}},
		{"x1.a", mx, lookup.Answer{AA: true, An: list(to("x1.a", "X.A")), Ns: list(noSoa)}},
		{"x1.a", 0, lookup.Answer{AA: true, An: list(to("x1.a", "X.A")), Ns: list(noSoa)}},
		{"x1.a", 65536 + cname, lookup.Answer{AA: true, An: list(to("x1.a", "X.A")), Ns: list(noSoa)}},
		{"x1.a", cname, lookup.Answer{AA: true, An: list(to("x1.a", "X.A"))}},
		{"X1.a", every, lookup.Answer{AA: true, An: list(to("x1.a", "X.A"))}},
		{"y1.a", a, lookup.Answer{AA: true, An: list(to("y1.a", "x1.a"), to("x1.a", "X.A"), one, two)}},
		{"y1.a", cname, lookup.Answer{AA: true, An: list(to("y1.a", "x1.a"))}},
		{"y1.a", every, lookup.Answer{AA: true, An: list(to("y1.a", "x1.a"))}},
		{"x1.x.a", txt, lookup.Answer{AA: true, An: list(to("x1.x.a", "x1.a"), to("x1.a", "X.A"), text("x.a"))}},
		{"e1.a", a, lookup.Answer{AA: true, An: list(to("e1.a", "E.a")), Ns: list(noSoa)}},
		{"q1.a", a, lookup.Answer{Rcode: api.NXDomain, AA: true, An: list(to("q1.a", "q.a")), Ns: list(noSoa)}},
		{"q1.a", cname, lookup.Answer{AA: true, An: list(to("q1.a", "q.a"))}},
		{"d1.a", a, cut},
		{"d1.a", ns, cut},
		{"d1.a", cname, lookup.Answer{AA: true, An: list(to("d1.a", "z.d.a"))}},
		{"d1.a", every, lookup.Answer{AA: true, An: list(to("d1.a", "z.d.a"))}},
		{"b1.a", a, lookup.Answer{AA: true, An: list(to("b1.a", "b"))}},
		{"b2.a", a, lookup.Answer{AA: true, An: list(to("b2.a", "b1.a"), to("b1.a", "b"))}},
		{"r1.a", a, lookup.Answer{AA: true, An: list(to("r1.a", ""))}},
		{"xa.a", a, lookup.Answer{AA: true, An: list(to("xa.a", "xa"))}},
		{"w1.a", a, lookup.Answer{AA: true, An: list(to("w1.a", "Q.w.a"), star[0])}},
		{"w1.a", txt, lookup.Answer{AA: true, An: list(to("w1.a", "Q.w.a")), Ns: list(noSoa)}},
		{"t1.a", ns, lookup.Answer{AA: true, An: list(to("t1.a", "A"), nsOfA)}},
		{"t1.a", soa, lookup.Answer{AA: true, An: list(to("t1.a", "A"), soaOfA)}},
		{"t1.a", a, lookup.Answer{AA: true, An: list(to("t1.a", "A")), Ns: list(noSoa)}},
		{"q.V.a", a, lookup.Answer{AA: true, An: list(to("q.V.a", "X.a"), one, two)}},
		{"q.V.a", cname, lookup.Answer{AA: true, An: list(to("q.V.a", "X.a"))}},
		{"v1.a", a, lookup.Answer{AA: true, An: list(to("v1.a", "q.v.a"), to("q.v.a", "X.a"), one, two)}},
		// To itself, and in circles that are entered at once or later.
		{"l1.a", a, lookup.Answer{AA: true, An: list(to("L1.a", "l1.A"))}},
		{"L1.A", ns, lookup.Answer{AA: true, An: list(to("L1.a", "l1.A"))}},
		{"c1.a", a, lookup.Answer{AA: true, An: list(to("c1.a", "C2.a"), to("c2.a", "C1.a"))}},
		{"C2.a", a, lookup.Answer{AA: true, An: list(to("c2.a", "C1.a"), to("c1.a", "C2.a"))}},
		{"r2.a", a, lookup.Answer{AA: true, An: list(to("r2.a", "r3.a"), to("r3.a", "r4.a"), to("r4.a", "R3.a"))}},
		{"q.u.a", a, lookup.Answer{AA: true, An: list(to("q.u.a", "z.u.a"), to("z.u.a", "z.u.a"))}},
		{"Z.u.a", a, lookup.Answer{AA: true, An: list(to("Z.u.a", "z.u.a"))}},
		{"*.u.a", a, lookup.Answer{AA: true, An: list(to("*.u.a", "z.u.a"), to("z.u.a", "z.u.a"))}},
	} {
		checkAsk(t, z, wire(c.n), c.typ, c.want)
		if got := m.ask([]string{wire(c.n)}, c.typ, nil); !same(got, c.want) {
			t.Errorf("the model has %s for %s %d", toldAnswer(got), c.n, c.typ)
		}
	}
	checkKept(t, z, m)
}

// chain returns aliases from c1.a on, each to the next one, the last one to the target.
func chain(size int, target string) []api.RR {
	var l []api.RR
	for i := 1; i < size; i++ {
		l = append(l, alias(fmt.Sprintf("c%d.a", i), fmt.Sprintf("C%d.A", i+1)))
	}
	return append(l, alias(fmt.Sprintf("c%d.a", size), target))
}

// Of a chain of names eight are asked for: with the last one of its records, seven aliases and one end, or eight aliases.
func TestChains(t *testing.T) {
	glue, cut := four("n.d.a", "glue"), server("d.a", "n.d.a")
	for size := 1; size <= 12; size++ {
		for _, end := range []struct {
			name string
			want lookup.Answer
		}{
			{"x.a", lookup.Answer{AA: true, An: list(four("x.a", "abcd"))}},
			{"y.x.a", lookup.Answer{Rcode: api.NXDomain, AA: true, Ns: list(noSoa)}},
			{"t.a", lookup.Answer{AA: true, Ns: list(noSoa)}},
			{"y.d.a", lookup.Answer{AA: true, Ns: list(cut), Ad: list(glue)}},
			{"e.a", lookup.Answer{AA: true, Ns: list(noSoa)}},
			{"Q.w.a", lookup.Answer{AA: true, An: renamed("Q.w.a", four("*.w.a", "star"))}},
			{"b", lookup.Answer{AA: true}},
			{"C1.a", lookup.Answer{AA: true}},
			{fmt.Sprintf("C%d.a", size), lookup.Answer{AA: true}},
			{fmt.Sprintf("C%d.a", (size+1)/2), lookup.Answer{AA: true}},
		} {
			l := chain(size, end.name)
			z, m := zoneOf(t, append(slices.Clone(l), four("x.a", "abcd"), text("t.a"), cut, glue, text("y.e.a"), four("*.w.a", "star"))...)
			want := end.want
			want.An = slices.Concat(l, want.An)
			if size >= 8 {
				want = lookup.Answer{AA: true, An: l[:8]}
			}
			checkAsk(t, z, wire("c1.a"), a, want)
			checkAsk(t, z, wire("c1.a"), cname, lookup.Answer{AA: true, An: l[:1]})
			checkAsk(t, z, wire("c1.a"), every, lookup.Answer{AA: true, An: l[:1]})
			if got := m.ask([]string{wire("c1.a")}, a, nil); !same(got, want) {
				t.Errorf("the model has %s for a chain of %d and %s", toldAnswer(got), size, end.name)
			}
			checkKept(t, z, m)
		}
	}
}

// Which of two cases that could apply comes first.
func TestWhichCaseComesFirst(t *testing.T) {
	cut := server("d.a", "n.d.a")
	glue, below := four("n.d.a", "glue"), alias("l.d.a", "x.a")
	star := alias("*.v.a", "x.a")
	z, _ := zoneOf(t, cut, glue, below, four("d.a", "here"), text("d.a"), four("x.a", "abcd"), star, alias("l.a", "x.a"), text("*.d.a"), text("y.e.a"))
	referral := lookup.Answer{Ns: list(cut), Ad: list(glue)}
	for _, c := range []struct {
		why  string
		n    string
		typ  int
		want lookup.Answer
	}{
		{"a cut before a name that does not exist", "q.n.d.a", a, referral},
		{"a cut before a wildcard", "q.d.a", txt, referral},
		{"a cut before ANY", "d.a", every, referral},
		{"a cut before ANY below", "n.d.a", every, referral},
		{"a cut before an alias", "l.d.a", a, referral},
		{"a cut before the type CNAME", "l.d.a", cname, referral},
		{"a cut before the type", "d.a", ns, referral},
		{"a cut before another type", "d.a", a, referral},
		{"a cut before the type below", "n.d.a", a, referral},
		{"a cut before the negative SOA", "n.d.a", mx, referral},
		{"NXDomain before ANY", "q.x.a", every, lookup.Answer{Rcode: api.NXDomain, AA: true, Ns: list(noSoa)}},
		{"NXDomain before the type CNAME", "q.l.a", cname, lookup.Answer{Rcode: api.NXDomain, AA: true, Ns: list(noSoa)}},
		{"NXDomain before the negative SOA", "q.l.a", a, lookup.Answer{Rcode: api.NXDomain, AA: true, Ns: list(noSoa)}},
		{"ANY before an alias", "l.a", every, lookup.Answer{AA: true, An: list(alias("l.a", "x.a"))}},
		{"ANY before the alias of a wildcard", "q.v.a", every, lookup.Answer{AA: true, An: renamed("q.v.a", star)}},
		{"ANY before the negative SOA", "e.a", every, lookup.Answer{AA: true}},
		{"an alias before the negative SOA", "l.a", a, lookup.Answer{AA: true, An: list(alias("l.a", "x.a"), four("x.a", "abcd"))}},
		{"the type CNAME is not followed", "l.a", cname, lookup.Answer{AA: true, An: list(alias("l.a", "x.a"))}},
		{"Refused before all", "d", ns, lookup.Answer{Rcode: api.Refused}},
	} {
		if got := lookup.Ask(z, wire(c.n), c.typ); !same(got, c.want) {
			t.Errorf("%s: %s; want %s", c.why, toldAnswer(got), toldAnswer(c.want))
		}
	}
	// At the apex the NS records are no cut.
	z, _ = zoneOf(t, four("n.d.a", "glue"))
	checkAsk(t, z, apex, ns, lookup.Answer{AA: true, An: list(nsOfA)})
	checkAsk(t, z, wire("n.d.a"), a, lookup.Answer{AA: true, An: list(four("n.d.a", "glue"))})
}

// P15.4

// pool has records for each case, several of which apply to one name.
var pool = list(
	server("d.a", "N.d.a"), server("x.d.a", "b.a"), four("n.D.a", "glue"), six("n.d.a"),
	four("*.a", "star"), alias("*.X.a", "l.a"), alias("L.a", "q.x.a"), alias("k.a", "q.d.a"), text("y.x.a"), rr("x.*.a", ns, 9, wire("n.d.a")),
)

func poolNames() []string {
	names := []string{root, wire("b"), wire("l"), "\x01x", "\x03x\x01d\x01a\x00"}
	for i, n := range []string{"a", "d.a", "x.d.a", "n.d.a", "q.x.d.a", "*.a", "q.a", "*.x.a", "x.a", "q.x.a", "q.q.x.a", "l.a", "q.l.a", "k.a", "y.x.a", "q.y.x.a", "x.*.a", "q.x.*.a", "q.*.a"} {
		n = wire(n)
		if i%2 == 1 {
			n = swap(n)
		}
		names = append(names, n)
	}
	return names
}

// consists reports whether an answer has nothing but what the zone has, by P15.4.
func consists(z zone.Zone, answer lookup.Answer) bool {
	all := z.All()
	has := func(r api.RR) bool { return slices.Contains(all, r) }
	starred := func(r api.RR) bool {
		return slices.ContainsFunc(all, func(s api.RR) bool {
			star := strings.HasPrefix(s.Name, "\x01*") && modelUnder(r.Name, s.Name[2:])
			s.Name = r.Name
			return star && s == r
		})
	}
	for _, r := range answer.An {
		if !has(r) && !starred(r) {
			return false
		}
	}
	for _, r := range answer.Ns {
		if !has(r) && r != lookup.No(z) {
			return false
		}
	}
	return !slices.ContainsFunc(answer.Ad, func(r api.RR) bool { return !has(r) })
}

func TestAllZonesOfAFewRecords(t *testing.T) {
	names := poolNames()
	for bits := range 1 << len(pool) {
		var l []api.RR
		for i, r := range pool {
			if bits>>i&1 == 1 {
				l = append(l, r)
			}
		}
		z, m := zoneOf(t, l...)
		for _, n := range names {
			checkName(t, z, m, n, []int{a, cname})
		}
		checkKept(t, z, m)
		if t.Failed() {
			return
		}
	}
}

// randomName returns a name of few labels, most often under a.
func randomName(random *rand.Rand) string {
	labels := []string{"a", "A", "b", "B", "*", "*", "c"}
	n := []string{"a", "A", "a", "a", "a", "A", "b", ""}[random.Intn(8)]
	for range random.Intn(4) {
		n = labels[random.Intn(len(labels))] + "." + n
	}
	return n
}

// randomZone returns a zone whose aliases stand alone, and often lead on to names of the zone, and in which there are fewer cuts than aliases.
func randomZone(t *testing.T, random *rand.Rand) (zone.Zone, model) {
	t.Helper()
	l := []api.RR{soaWith(random.Intn(4), uint32(random.Intn(4))), nsOfA}
	names := []string{"a"}
	for range random.Intn(20) {
		n, target := randomName(random), randomName(random)
		names = append(names, n)
		if random.Intn(2) == 0 {
			target = names[random.Intn(len(names))]
		}
		addresses := []api.RR{four(n, "abcd"), four(n, "ABCD"), six(n), text(n), rr(n, 300, random.Intn(9), "x")}
		r := addresses[random.Intn(len(addresses))]
		switch random.Intn(12) {
		case 0:
			r = server(n, []string{target, n, "b." + n}[random.Intn(3)])
		case 1, 2, 3, 4, 5:
			r = alias(n, target)
		}
		crowded := slices.ContainsFunc(l, func(s api.RR) bool {
			return lower(s.Name) == lower(r.Name) && (s.Type == cname || r.Type == cname)
		})
		if modelUnder(r.Name, apex) && !crowded {
			l = append(l, r)
		}
	}
	z := makeZone(t, apex, l)
	return z, model{apex: apex, set: z.All()}
}

func TestRandomZones(t *testing.T) {
	random := rand.New(rand.NewSource(1))
	codes, cuts, chains, glue, behind := map[api.Rcode]int{}, 0, 0, 0, 0
	for range 600 {
		z, m := randomZone(t, random)
		for range 30 {
			n := wire(randomName(random))
			checkName(t, z, m, n, []int{a, []int{ns, every, cname, soa, txt, aaaa, 300, 0}[random.Intn(8)]})
			answer := lookup.Ask(z, n, a)
			if !consists(z, answer) {
				t.Errorf("Ask(%q, 1) = %s in %s", n, toldAnswer(answer), told(z.All()))
			}
			codes[answer.Rcode]++
			if !answer.AA && answer.Rcode == api.NoError {
				cuts++
			}
			if len(typed(answer.An, cname)) > 2 {
				chains++
			}
			if len(answer.Ad) > 0 {
				glue++
			}
			if len(answer.An) > 0 && len(typed(answer.Ns, ns)) > 0 {
				behind++
			}
		}
		checkKept(t, z, m)
		if t.Failed() {
			return
		}
	}
	if min(codes[api.NoError], codes[api.NXDomain], codes[api.Refused]) < 1000 || min(cuts, chains, glue, behind) < 20 {
		t.Errorf("too few of some answers: %v, %d cuts, %d chains, %d with addresses, %d cuts behind an alias", codes, cuts, chains, glue, behind)
	}
}

// Answers to later questions, to this zone or another one, leave those before as they were.
func TestAnswersStay(t *testing.T) {
	z, m, _, _ := zoneWithACut(t)
	other, _ := zoneOf(t, four("*.a", "star"), server("x.d.a", "b"), alias("d.a", "i.a"), text("i.a"))
	type kept struct{ got, want lookup.Answer }
	var answers []kept
	var found [][2][]api.RR
	for _, n := range []string{"d.a", "i.a", "j.a", "a", "q.a", "b.a", "x.d.a", "c.d.a", "n.d.a"} {
		for _, typ := range []int{a, ns, every, txt} {
			for _, y := range []zone.Zone{z, other, z.WithSerial(9)} {
				got := lookup.Ask(y, wire(n), typ)
				answers = append(answers, kept{got, copied(got)})
				l, _ := lookup.Find(y, wire(n))
				found = append(found, [2][]api.RR{l, slices.Clone(l)})
			}
		}
	}
	for i, answer := range answers {
		if !same(answer.got, answer.want) || !slices.Equal(found[i][0], found[i][1]) {
			t.Errorf("an answer became %s; it was %s", toldAnswer(answer.got), toldAnswer(answer.want))
		}
	}
	checkKept(t, z, m)
}

// Zones with the same apex, SOA and number of records have their own answers.
func TestZonesAreIndependent(t *testing.T) {
	z1, _ := zoneOf(t, four("x.a", "1111"), server("d.a", "n.d.a"))
	z2, _ := zoneOf(t, four("*.a", "2222"), text("n.d.a"))
	for range 3 {
		checkAsk(t, z1, wire("x.a"), a, lookup.Answer{AA: true, An: list(four("x.a", "1111"))})
		checkAsk(t, z2, wire("x.a"), a, lookup.Answer{AA: true, An: list(four("x.a", "2222"))})
		checkCut(t, z1, wire("n.d.a"), wire("d.a"))
		checkCut(t, z2, wire("n.d.a"), "")
		checkClosest(t, z1, wire("q.x.a"), wire("x.a"))
		checkClosest(t, z2, wire("q.x.a"), wire("a"))
		checkFind(t, z1, wire("q.a"), nil, false)
		checkFind(t, z2, wire("q.a"), list(four("q.a", "2222")), true)
	}
}
