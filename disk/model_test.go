package disk_test

import (
	"maps"
	"math/rand"
	"slices"
	"strings"
	"testing"

	"beadroll/api"
	"beadroll/disk"
)

// model is a disk by the chapter's words that remembers instead of computing: every state of the names since the last
// SyncDir (the first one is safe, the last one is present), and every file that there has ever been.
type model struct {
	quota  int
	states []map[string]int // a name's file, by its number
	bytes  []string
	safe   []string
	down   bool
	breaks int // after so many changes, or never if it is below 0
}

func newModel(quota int) *model {
	return &model{quota: quota, states: []map[string]int{{}}, breaks: -1}
}

func (m *model) names() map[string]int {
	return m.states[len(m.states)-1]
}

func (m *model) used() int {
	n := 0
	for _, f := range m.names() {
		n += len(m.bytes[f])
	}
	return n
}

// made counts a change; next is the state of the names after it, or nil if none is pending.
func (m *model) made(next map[string]int) api.Errno {
	if next != nil {
		m.states = append(m.states, next)
	}
	m.breaks--
	if m.breaks == 0 {
		m.down = true
	}
	return api.OK
}

// fails returns the error that all calls have, with want as the error of a first name that does not exist.
func (m *model) fails(want api.Errno, names ...string) api.Errno {
	if m.down {
		return api.ErrLost
	}
	for _, n := range names {
		if len(n) == 0 || len(n) >= 65 {
			return api.ErrArg
		}
	}
	if len(names) > 0 {
		if _, ok := m.names()[names[0]]; !ok {
			return want
		}
	}
	return api.OK
}

func (m *model) append(name, b string) api.Errno {
	if e := m.fails(api.OK, name); e != api.OK {
		return e
	}
	if m.used()+len(b) > m.quota {
		return api.ErrFull
	}
	f, ok := m.names()[name]
	if ok {
		m.bytes[f] += b
		return m.made(nil)
	}
	m.bytes, m.safe = append(m.bytes, b), append(m.safe, "")
	next := maps.Clone(m.names())
	next[name] = len(m.bytes) - 1
	return m.made(next)
}

func (m *model) sync(name string) api.Errno {
	if e := m.fails(api.ErrNone, name); e != api.OK {
		return e
	}
	f := m.names()[name]
	m.safe[f] = m.bytes[f]
	return m.made(nil)
}

func (m *model) syncDir() api.Errno {
	if e := m.fails(api.OK); e != api.OK {
		return e
	}
	m.states = m.states[len(m.states)-1:]
	return m.made(nil)
}

func (m *model) rename(from, to string) api.Errno {
	if e := m.fails(api.ErrNone, from, to); e != api.OK {
		return e
	}
	next := maps.Clone(m.names())
	next[to] = next[from]
	if from != to {
		delete(next, from)
	}
	return m.made(next)
}

func (m *model) remove(name string) api.Errno {
	if e := m.fails(api.ErrNone, name); e != api.OK {
		return e
	}
	next := maps.Clone(m.names())
	delete(next, name)
	return m.made(next)
}

func (m *model) breakAfter(n int) api.Errno {
	if n < 0 {
		return api.ErrArg
	}
	m.breaks = n
	m.down = m.down || n == 0
	return api.OK
}

func (m *model) restart(choices string) {
	choices += strings.Repeat("\x00", 1+len(m.bytes))
	m.states = m.states[int(choices[0])%len(m.states):][:1]
	for i, name := range sorted(m.names()) {
		f := m.names()[name]
		rest := m.bytes[f][len(m.safe[f]):]
		m.safe[f] += rest[:int(choices[i+1])*(len(rest)+1)/256]
		m.bytes[f] = m.safe[f]
	}
	m.down, m.breaks = false, -1
}

// sorted returns the keys of m in ascending order.
func sorted(m map[string]int) []string {
	return slices.Sorted(maps.Keys(m))
}

func checkModel(t *testing.T, d *disk.Disk, m *model) {
	t.Helper()
	checkUsed(t, d, m.used())
	checkDown(t, d, m.down)
	if m.down {
		checkList(t, d, nil, api.ErrLost)
		return
	}
	checkList(t, d, sorted(m.names()), api.OK)
	for _, n := range sorted(m.names()) {
		checkRead(t, d, n, m.bytes[m.names()[n]], api.OK)
	}
}

// randomStep makes the same call of a disk and of its model.
func randomStep(t *testing.T, r *rand.Rand, d *disk.Disk, m *model) {
	t.Helper()
	names := []string{"a", "a", "a", "b", "b", "c", "d", longest, "", tooLong}
	a, b := names[r.Intn(len(names))], names[r.Intn(len(names))]
	text := strings.Repeat("0123456789", 3)[:r.Intn(30)]
	n := r.Intn(40) - 1
	choices := make([]byte, r.Intn(8))
	r.Read(choices)
	switch r.Intn(24) {
	case 0, 1, 2, 3, 4, 5, 6:
		check(t, m.append(a, text), d.Append(a, text))
	case 7, 8, 9, 10:
		check(t, m.sync(a), d.Sync(a))
	case 11, 12:
		check(t, m.syncDir(), d.SyncDir())
	case 13, 14, 15, 16, 17:
		check(t, m.rename(a, b), d.Rename(a, b))
	case 18, 19, 20:
		check(t, m.remove(a), d.Remove(a))
	case 21:
		check(t, m.breakAfter(n), d.Break(n))
	case 22:
		m.quota = 20 + r.Intn(100)
		do(t, d.SetQuota(m.quota))
	case 23:
		m.restart(string(choices))
		d.Restart(string(choices))
	}
	checkModel(t, d, m)
}

// P4.1 to P4.3: a disk compared with its model, call by call

func TestRandomCalls(t *testing.T) {
	r := rand.New(rand.NewSource(4))
	for range 300 {
		d, m := newDisk(t, 60), newModel(60)
		for range 200 {
			randomStep(t, r, d, m)
			if t.Failed() {
				return
			}
		}
	}
}

// P4.4: after random calls, what was synced under a synced name that was not changed since is a prefix of its file

func TestSyncedBytesSurviveRandomCalls(t *testing.T) {
	r := rand.New(rand.NewSource(5))
	for range 2000 {
		d, m := newDisk(t, 200), newModel(200)
		do(t, d.Append("synced", "kept"), d.Sync("synced"), d.SyncDir())
		do(t, m.append("synced", "kept"), m.sync("synced"), m.syncDir())
		for range 30 {
			randomStep(t, r, d, m)
		}
		d.Restart(string([]byte{byte(r.Intn(256)), byte(r.Intn(256))}))
		if s, e := d.Read("synced"); e != api.OK || s != "kept" {
			t.Fatalf("Read = %q, %d", s, e)
		}
	}
}
