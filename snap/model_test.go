package snap_test

import (
	"fmt"
	"hash/crc32"
	"slices"
	"strings"
	"testing"

	"beadroll/api"
	"beadroll/disk"
	"beadroll/image"
	"beadroll/snap"
	"beadroll/zone"
)

// The model reads the chapter once more: it makes the chapter's steps one after another on a disk of its own, which has to remain like the other one, and divides a file by offsets. What the bytes of an image are, and which bytes are one, it asks layer 18.

const (
	maxFrame = 16777216
	maxZone  = 65536
	maxData  = 65535
)

// four is a number in four bytes.
func four(n int) string {
	return string([]byte{byte(n >> 24), byte(n >> 16), byte(n >> 8), byte(n)})
}

func numberAt(b string, at int) int {
	n := 0
	for i := range 4 {
		n = n*256 + int(b[at+i])
	}
	return n
}

// modelFrame is the frame of bytes that may be too long for one.
func modelFrame(b string) string {
	number := four(len(b))
	return number + four(int(crc32.ChecksumIEEE([]byte(number+b)))) + b
}

func modelSave(d *disk.Disk, gen uint64, z zone.Zone) api.Errno {
	b := image.Bytes(gen, z)
	if len(b) > maxFrame {
		return api.ErrLong
	}
	if e := d.Remove("image-tmp"); e != api.OK && e != api.ErrNone {
		return e
	}
	if e := d.Append("image-tmp", modelFrame(b)); e == api.ErrFull {
		d.Remove("image-tmp")
		return e
	} else if e != api.OK {
		return e
	}
	if e := d.Sync("image-tmp"); e != api.OK {
		return e
	}
	if e := d.Rename("image-tmp", "image"); e != api.OK {
		return e
	}
	return d.SyncDir()
}

func modelLoad(d *disk.Disk) (uint64, zone.Zone, api.Errno) {
	b, e := d.Read("image")
	if e != api.OK {
		return 0, zone.Zone{}, e
	}
	if len(b) < 8 || len(b) > 8+maxFrame || numberAt(b, 0) != len(b)-8 || modelFrame(b[8:]) != b {
		return 0, zone.Zone{}, api.ErrSum
	}
	return image.Of(b[8:])
}

func modelSweep(d *disk.Disk, gen uint64) api.Errno {
	names, e := d.List()
	removed := 0
	for i := 0; e == api.OK && i < len(names); i++ {
		if names[i] == "image" || names[i] == fmt.Sprintf("log-%d", gen) {
			continue
		}
		e = d.Remove(names[i])
		removed++
	}
	if e == api.OK && removed > 0 {
		e = d.SyncDir()
	}
	return e
}

// pair is a disk, and the model's disk.
type pair struct {
	d, twin *disk.Disk
}

func newPair(t *testing.T, quota int) *pair {
	t.Helper()
	return &pair{newDisk(t, quota), newDisk(t, quota)}
}

// both makes the same call of both disks.
func (p *pair) both(call func(d *disk.Disk)) {
	call(p.d)
	call(p.twin)
}

func (p *pair) put(file, b string) {
	p.both(func(d *disk.Disk) { d.Append(file, b) })
}

func (p *pair) sync() {
	p.both(func(d *disk.Disk) {
		names, _ := d.List()
		for _, n := range names {
			d.Sync(n)
		}
		d.SyncDir()
	})
}

func (p *pair) breakAfter(n int) {
	p.both(func(d *disk.Disk) { d.Break(n) })
}

func (p *pair) restart(choices string) {
	p.both(func(d *disk.Disk) { d.Restart(choices) })
}

func (p *pair) quota(n int) {
	p.both(func(d *disk.Disk) { d.SetQuota(n) })
}

func (p *pair) save(t *testing.T, gen uint64, z zone.Zone) {
	t.Helper()
	want := modelSave(p.twin, gen, z)
	checkSave(t, p.d, gen, z, want)
	p.check(t)
}

func (p *pair) load(t *testing.T) {
	t.Helper()
	gen, z, want := modelLoad(p.twin)
	if want != api.OK {
		checkNoLoad(t, p.d, want)
	} else {
		checkLoad(t, p.d, gen, z)
	}
	p.check(t)
}

func (p *pair) sweep(t *testing.T, gen uint64) {
	t.Helper()
	want := modelSweep(p.twin, gen)
	if e := snap.Sweep(p.d, gen); e != want {
		t.Errorf("Sweep(%d): %d; want %d", gen, e, want)
	}
	p.check(t)
}

// check compares what can be seen of both disks. What cannot be seen is compared by what restarts leave.
func (p *pair) check(t *testing.T) {
	t.Helper()
	if got, want := filesOf(p.d), filesOf(p.twin); got != want {
		t.Errorf("the disk: %s\nwant %s", brief(got), brief(want))
	}
}

// filesOf tells all that can be seen of a disk without changing it.
func filesOf(d *disk.Disk) string {
	var s strings.Builder
	fmt.Fprintf(&s, "down %v, used %d of %d", d.Down(), d.Used(), d.Quota())
	names, e := d.List()
	fmt.Fprintf(&s, ", list %d", e)
	for _, n := range names {
		b, e := d.Read(n)
		fmt.Fprintf(&s, "\n%q: %d %q", n, e, b)
	}
	return s.String()
}

func (p *pair) names() []string {
	names, _ := p.d.List()
	return slices.Clone(names)
}
