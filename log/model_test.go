package log_test

import (
	"fmt"
	"hash/crc32"
	"slices"
	"strings"
	"testing"

	"beadroll/api"
	"beadroll/disk"
	"beadroll/entry"
	"beadroll/log"
)

// The model reads the chapter once more: it makes the chapter's steps on a disk of its own, which has to remain like the other one, divides a journal's file by offsets, and reads its entries from the file whenever it is asked. What the bytes of an entry are it asks layer 17.

const (
	maxFrame = 16777216
	maxZone  = 65536
	maxData  = 65535
)

// four is a number in four bytes.
func four(n int) string {
	return string([]byte{byte(n >> 24), byte(n >> 16), byte(n >> 8), byte(n)})
}

func numberAt(b string, at int) int {
	n := 0
	for i := range 4 {
		n = n*256 + int(b[at+i])
	}
	return n
}

// modelFrame is the frame of bytes that may be too long for one.
func modelFrame(b string) string {
	number := four(len(b))
	return number + four(int(crc32.ChecksumIEEE([]byte(number+b)))) + b
}

// modelBody returns the bytes of the frame at an offset, if there is one.
func modelBody(b string, at int) (string, bool) {
	if len(b)-at < 8 {
		return "", false
	}
	size := numberAt(b, at)
	if size > maxFrame || size > len(b)-at-8 {
		return "", false
	}
	body := b[at+8 : at+8+size]
	return body, modelFrame(body) == b[at:at+8+size]
}

// modelScan returns the entries of a journal's file, and where the rest begins.
func modelScan(b string) ([]entry.Entry, int) {
	var l []entry.Entry
	at := 0
	for {
		body, isFrame := modelBody(b, at)
		x, e := entry.Of(body)
		if !isFrame || e != api.OK || !entry.Chain(append(slices.Clone(l), x)) {
			return l, at
		}
		l = append(l, x)
		at += 8 + len(body)
	}
}

// model is the journal of a generation: the bytes of its entries' frames, which are those of its file unless it is broken.
type model struct {
	d      *disk.Disk
	file   string
	good   string
	broken bool
}

// first carries out the steps up to the first error.
func first(steps ...func() api.Errno) api.Errno {
	for _, step := range steps {
		if e := step(); e != api.OK {
			return e
		}
	}
	return api.OK
}

func modelOpen(d *disk.Disk, gen uint64) (*model, api.Errno) {
	m := &model{d: d, file: fmt.Sprintf("log-%d", gen)}
	b, e := d.Read(m.file)
	if e != api.OK && e != api.ErrNone {
		return nil, e
	}
	_, end := modelScan(b)
	m.good = b[:end]
	if m.good == b {
		return m, api.OK
	}
	e = first(
		func() api.Errno {
			if e := d.Remove("log-tmp"); e != api.ErrNone {
				return e
			}
			return api.OK
		},
		func() api.Errno { return d.Append("log-tmp", m.good) },
		func() api.Errno { return d.Sync("log-tmp") },
		func() api.Errno { return d.Rename("log-tmp", m.file) },
		d.SyncDir,
	)
	if e != api.OK {
		return nil, e
	}
	return m, api.OK
}

func (m *model) entries() []entry.Entry {
	l, _ := modelScan(m.good)
	return l
}

// wellFormed asks layer 17 which entries are.
func wellFormed(x entry.Entry) bool {
	_, e := entry.Bytes(x)
	return e == api.OK
}

func (m *model) refuses(x entry.Entry) api.Errno {
	if !wellFormed(x) {
		return api.ErrForm
	}
	l := m.entries()
	if len(l) > 0 && l[len(l)-1].To != x.From {
		return api.ErrGap
	}
	if b, _ := entry.Bytes(x); len(b) > maxFrame {
		return api.ErrLong
	}
	if m.broken {
		return api.ErrLost
	}
	return api.OK
}

func (m *model) add(x entry.Entry) api.Errno {
	if e := m.refuses(x); e != api.OK {
		return e
	}
	b, _ := entry.Bytes(x)
	_, missing := m.d.Read(m.file)
	if e := m.d.Append(m.file, modelFrame(b)); e != api.OK {
		return e
	}
	m.broken = true
	if e := m.d.Sync(m.file); e != api.OK {
		return e
	}
	if missing == api.ErrNone {
		if e := m.d.SyncDir(); e != api.OK {
			return e
		}
	}
	m.broken = false
	m.good += modelFrame(b)
	return api.OK
}

// pair is a disk and the model's disk, and a journal on each of them, if one could be opened.
type pair struct {
	d, twin *disk.Disk
	l       *log.Log
	m       *model
	gen     uint64
}

func newPair(t *testing.T, quota int) *pair {
	t.Helper()
	return &pair{d: newDisk(t, quota), twin: newDisk(t, quota)}
}

// both makes the same call of both disks.
func (p *pair) both(call func(d *disk.Disk)) {
	call(p.d)
	call(p.twin)
}

func (p *pair) put(file, b string) {
	p.both(func(d *disk.Disk) { d.Append(file, b) })
}

func (p *pair) breakAfter(n int) {
	p.both(func(d *disk.Disk) { d.Break(n) })
}

func (p *pair) restart(choices string) {
	p.both(func(d *disk.Disk) { d.Restart(choices) })
}

func (p *pair) quota(n int) {
	p.both(func(d *disk.Disk) { d.SetQuota(n) })
}

// open keeps the journal that was open before if there is an error.
func (p *pair) open(t *testing.T, gen uint64) api.Errno {
	t.Helper()
	l, e := log.Open(p.d, gen)
	m, want := modelOpen(p.twin, gen)
	if e != want || (l == nil) != (m == nil) {
		t.Errorf("Open(%d): %v, %d; want %v, %d", gen, l, e, m, want)
	}
	if l != nil && m != nil {
		p.l, p.m, p.gen = l, m, gen
	}
	p.check(t)
	return e
}

func (p *pair) add(t *testing.T, x entry.Entry) api.Errno {
	t.Helper()
	want := p.m.add(x)
	e := give(x).add(t, p.l)
	if e != want {
		t.Errorf("Add(%s): %d; want %d", told(x), e, want)
	}
	p.check(t)
	return e
}

func (p *pair) check(t *testing.T) {
	t.Helper()
	checkSameDisk(t, p.d, p.twin)
	if p.l != nil {
		checkLog(t, p.l, p.gen, p.m.entries(), len(p.m.good))
	}
}

// filesOf tells all that can be seen of a disk without changing it.
func filesOf(d *disk.Disk) string {
	var s strings.Builder
	fmt.Fprintf(&s, "down %v, used %d of %d", d.Down(), d.Used(), d.Quota())
	names, e := d.List()
	fmt.Fprintf(&s, ", list %d", e)
	for _, n := range names {
		b, e := d.Read(n)
		fmt.Fprintf(&s, "\n%s: %d %q", n, e, b)
	}
	return s.String()
}

func checkSameDisk(t *testing.T, d, twin *disk.Disk) {
	t.Helper()
	if got, want := filesOf(d), filesOf(twin); got != want {
		t.Errorf("the disk: %s\nwant %s", brief(got), brief(want))
	}
}
