package snap_test

import (
	"fmt"
	"math"
	"math/rand"
	"slices"
	"strings"
	"testing"

	"beadroll/api"
	"beadroll/disk"
	"beadroll/image"
	"beadroll/log"
	"beadroll/rdata"
	"beadroll/snap"
	"beadroll/zone"
)

const (
	a   = 1
	ns  = 2
	soa = 6
	mx  = 15
	in  = 1

	root = "\x00"
	apex = "\x01a\x00"
	// lots is a quota that no test exhausts.
	lots = 1 << 40
	// never is a number of changes that no test makes.
	never = 1 << 62
	// smallGen is a generation of eight different bytes.
	smallGen = 0x0102fdfe7f80ff04
)

// smallBytes are those of the image of smallGen and the least zone, and smallFrame is their frame.
const (
	smallBytes = "\x01\x02\xfd\xfe\x7f\x80\xff\x04" + "\x00\x03" + apex + pieceOfNS + "\x00\x00\x00\x23" + apex + "\x00\x06\x00\x01\x00\x00\x00\x05\x00\x16" + "\x00\x00" + "\x00\x00\x00\x07ABCDEFGHIJKLMNOP"
	pieceOfNS  = "\x00\x00\x00\x0e" + apex + "\x00\x02\x00\x01\x00\x00\x00\x00\x00\x01\x00"
	smallFrame = "\x00\x00\x00\x46" + "\xcb\xf0\xfe\xe1" + smallBytes
)

// otherFrame is the frame of the image of the generation 2 and a zone of four records.
const otherFrame = "\x00\x00\x00\x72" + "\xf3\x55\x6d\x64" + "\x00\x00\x00\x00\x00\x00\x00\x02" + "\x00\x03" + apex +
	"\x00\x00\x00\x11" + apex + "\x00\x01\x00\x01\x00\x00\x00\x05\x00\x04abcd" + pieceOfNS +
	"\x00\x00\x00\x23" + apex + "\x00\x06\x00\x01\x00\x00\x00\x05\x00\x16" + "\x00\x00" + "\x00\x00\x00\x08ABCDEFGHIJKLMNOP" +
	"\x00\x00\x00\x13" + "\x01x\x01a\x00" + "\x00\x0f\x00\x01\x00\x00\x00\x05\x00\x04\x00\x0a\xc0\x02"

// least are the records of the least zone a., and more are some that it can have beside them.
var (
	least   = list(rr(apex, ns, in, 0, root), rr(apex, soa, in, 5, root+root+"\x00\x00\x00\x07ABCDEFGHIJKLMNOP"))
	addedA  = rr(apex, a, in, 5, "abcd")
	addedMX = rr("\x01x\x01a\x00", mx, in, 5, "\x00\x0a"+apex)
	more    = list(addedA, addedMX, rr(apex, ns, in, 5, "\x01N\x01a\x00"), rr("\x01*\x01A\x00", 99, in, 2147483647, ""), rr("\x01\x00\x01a\x00", 65535, in, 1, strings.Repeat("z", 300)))
	// foreign stands in the spare capacity of what is handed in, and scribble is written over what was handed in or returned.
	foreign  = rr("\x07foreign\x00", 9, 9, 77777, "foreign")
	scribble = rr("\x08scribble\x00", 8, 8, 77777, "scribble")
	// gens are generations of each size.
	gens = []uint64{0, 1, 2, 255, 256, math.MaxUint32, math.MaxUint32 + 1, smallGen, math.MaxInt64, math.MaxInt64 + 1, math.MaxUint64 - 1, math.MaxUint64}
)

// files are some that an image has nothing to do with, although their names resemble those that it uses.
var files = []string{"\x00", "IMAGE", "a", "imag", "image ", "image-", "image-tm", "image-tmp ", "image-tmp2", "image.tmp", "image2", "image_tmp", "log-0", "log-5", "log-tmp", "mage", "tmp", strings.Repeat("\xff", 64)}

func rr(n string, typ, class, ttl int, data string) api.RR {
	return api.RR{Name: n, Type: typ, Class: class, TTL: ttl, Data: data}
}

func list(l ...api.RR) []api.RR {
	return l
}

func mustZone(t testing.TB, apex string, l []api.RR) zone.Zone {
	t.Helper()
	z, e := zone.New(apex, l)
	if e != api.OK {
		t.Fatalf("zone.New(%q, %s): %d", apex, told(l), e)
	}
	return z
}

// leastOf are the records that a zone of any apex needs.
func leastOf(apex string) []api.RR {
	return list(rr(apex, ns, in, 60, apex), rr(apex, soa, in, 60, apex+root+"\x00\x00\x00\x01ABCDEFGHIJKLMNOP"))
}

func small(t testing.TB) zone.Zone {
	return mustZone(t, apex, least)
}

func other(t testing.TB) zone.Zone {
	return mustZone(t, apex, append(list(addedA, addedMX), least...)).WithSerial(8)
}

// countUp is a zone of n records beside the least ones.
func countUp(t testing.TB, n int) zone.Zone {
	l := slices.Clone(least)
	for i := range n {
		l = append(l, rr(apex, 99, in, 5, four(i)))
	}
	return mustZone(t, apex, l)
}

// great is a zone whose image has that many bytes, almost all of them in 256 records.
func great(t testing.TB, size int) zone.Zone {
	const full, besideData = 255, 17
	l := slices.Clone(least)
	for i := range full {
		l = append(l, rr(apex, 99, in, 5, string([]byte{byte(i)})+strings.Repeat("A", maxData-1)))
	}
	rest := size - len(smallBytes) - full*(besideData+maxData) - besideData
	z := mustZone(t, apex, append(l, rr(apex, 99, in, 5, strings.Repeat("\xff", rest))))
	if len(image.Bytes(0, z)) != size {
		t.Fatalf("the image has %d bytes; want %d", len(image.Bytes(0, z)), size)
	}
	return z
}

// zones are the least one and others.
func zones(t testing.TB) []zone.Zone {
	label := strings.Repeat("l", 63)
	longest := "\x3f" + label + "\x3f" + label + "\x3f" + label + "\x3d" + label[:61] + "\x00"
	return []zone.Zone{
		small(t),
		other(t),
		mustZone(t, apex, append(slices.Clone(more), least...)).WithSerial(math.MaxUint32),
		mustZone(t, "\x01A\x00", append(slices.Clone(more), least...)).WithSerial(0),
		mustZone(t, root, append(leastOf(root), addedA, addedMX)),
		mustZone(t, longest, leastOf(longest)),
		countUp(t, 200),
	}
}

func newDisk(t testing.TB, quota int) *disk.Disk {
	t.Helper()
	d, e := disk.New(quota)
	do(t, e)
	return d
}

// do expects calls without an error.
func do(t testing.TB, errors ...api.Errno) {
	t.Helper()
	for i, e := range errors {
		if e != api.OK {
			t.Fatalf("call %d: %d", i, e)
		}
	}
}

// put writes a file that no restart loses.
func put(t testing.TB, d *disk.Disk, file, b string) {
	t.Helper()
	do(t, d.Append(file, b), d.Sync(file), d.SyncDir())
}

// set makes b the whole file.
func set(t testing.TB, d *disk.Disk, file, b string) {
	t.Helper()
	d.Remove(file)
	put(t, d, file, b)
}

func brief(s string) string {
	if len(s) > 1000 {
		return fmt.Sprintf("%s.. (%d bytes)", s[:1000], len(s))
	}
	return s
}

func told(l []api.RR) string {
	s := fmt.Sprintf("%d:", len(l))
	for _, r := range l[:min(len(l), 8)] {
		s += fmt.Sprintf(" {%q %d %d TTL %d %q}", r.Name, r.Type, r.Class, r.TTL, r.Data[:min(len(r.Data), 40)])
	}
	return s
}

func frameOf(gen uint64, z zone.Zone) string {
	return modelFrame(image.Bytes(gen, z))
}

// flipped is b with one bit changed.
func flipped(b string, at, bit int) string {
	c := []byte(b)
	c[at] ^= 1 << bit
	return string(c)
}

func sameZone(y, z zone.Zone) bool {
	return y.Apex() == z.Apex() && slices.Equal(y.All(), z.All())
}

// isZero reports whether z is as a call returns it with an error.
func isZero(z zone.Zone) bool {
	r, parts := z.Soa()
	return z.Apex() == "" && len(z.All()) == 0 && r == api.RR{} && parts == rdata.SOA{}
}

// checkZone writes over the list that it is told.
func checkZone(t *testing.T, call string, z zone.Zone, apex string, l []api.RR) {
	t.Helper()
	got := z.All()
	if z.Apex() != apex || !slices.Equal(got, l) {
		t.Errorf("%s: %q, %s; want %q, %s", call, z.Apex(), told(got), apex, told(l))
	}
	got = got[:cap(got)]
	for i := range got {
		got[i] = scribble
	}
}

func checkSave(t *testing.T, d *disk.Disk, gen uint64, z zone.Zone, want api.Errno) {
	t.Helper()
	apex, l := z.Apex(), z.All()
	if e := snap.Save(d, gen, z); e != want {
		t.Errorf("Save(%d, %q, %s): %d; want %d", gen, apex, told(l), e, want)
	}
	checkZone(t, "the zone after Save", z, apex, l)
}

// checkQuiet checks that a call changes nothing of the disk.
func checkQuiet(t *testing.T, d *disk.Disk, call func()) {
	t.Helper()
	do(t, d.Break(1))
	before := filesOf(d)
	call()
	if after := filesOf(d); after != before {
		t.Errorf("the disk: %s\nbefore %s", brief(after), brief(before))
	}
	do(t, d.Break(never))
}

// checkLoad loads twice, and writes over what it was told of the first zone.
func checkLoad(t *testing.T, d *disk.Disk, gen uint64, z zone.Zone) {
	t.Helper()
	for range 2 {
		g, y, e := snap.Load(d)
		if g != gen || e != api.OK {
			t.Errorf("Load: %d, %d; want %d", g, e, gen)
		}
		checkZone(t, "Load", y, z.Apex(), z.All())
		_, parts := y.Soa()
		if _, want := z.Soa(); parts != want {
			t.Errorf("Load: the SOA %v; want %v", parts, want)
		}
	}
}

func checkNoLoad(t *testing.T, d *disk.Disk, want api.Errno) {
	t.Helper()
	if g, z, e := snap.Load(d); g != 0 || !isZero(z) || e != want {
		t.Errorf("Load: %d, %s, %d; want %d", g, told(z.All()), e, want)
	}
}

// checkFiles compares the files of a disk with names and bytes by turns, in ascending order.
func checkFiles(t *testing.T, d *disk.Disk, want ...string) {
	t.Helper()
	names, e := d.List()
	do(t, e)
	var got []string
	for _, n := range names {
		b, e := d.Read(n)
		do(t, e)
		got = append(got, n, b)
	}
	if !slices.Equal(got, want) {
		t.Errorf("the files are %s; want %s", brief(fmt.Sprintf("%q", got)), brief(fmt.Sprintf("%q", want)))
	}
}

// checkSafe restarts a disk that loses whatever it may.
func checkSafe(t *testing.T, d *disk.Disk, want ...string) {
	t.Helper()
	d.Restart("")
	checkFiles(t, d, want...)
}

// changesOf counts the changes of a disk that a call makes, and then restarts the disk.
func changesOf(t *testing.T, d *disk.Disk, call func()) int {
	t.Helper()
	do(t, d.Break(200))
	call()
	n := 200
	for !d.Down() {
		do(t, d.SyncDir())
		n--
	}
	d.Restart("")
	return n
}

func TestTheZonesOfTheseTests(t *testing.T) {
	if b := image.Bytes(smallGen, small(t)); b != smallBytes {
		t.Errorf("%q", b)
	}
	if b := frameOf(smallGen, small(t)); b != smallFrame {
		t.Errorf("%q", b)
	}
	if b := frameOf(2, other(t)); b != otherFrame {
		t.Errorf("%q", b)
	}
	for i, z := range zones(t) {
		for j, y := range zones(t) {
			if sameZone(y, z) != (i == j) {
				t.Errorf("the zones %d and %d", i, j)
			}
		}
	}
}

// P20.1: Save

func TestSave(t *testing.T) {
	d := newDisk(t, lots)
	checkSave(t, d, smallGen, small(t), api.OK)
	checkFiles(t, d, "image", smallFrame)
	checkSafe(t, d, "image", smallFrame)
	checkSave(t, d, 2, other(t), api.OK)
	checkFiles(t, d, "image", otherFrame)
	checkSafe(t, d, "image", otherFrame)
	checkSave(t, d, smallGen, small(t), api.OK)
	checkSave(t, d, smallGen, small(t), api.OK)
	checkSafe(t, d, "image", smallFrame)
}

func TestSaveEachZone(t *testing.T) {
	for _, z := range zones(t) {
		d := newDisk(t, lots)
		for _, gen := range gens {
			fresh := newDisk(t, lots)
			checkSave(t, fresh, gen, z, api.OK)
			checkSave(t, d, gen, z, api.OK)
			checkSafe(t, fresh, "image", frameOf(gen, z))
			checkSafe(t, d, "image", frameOf(gen, z))
			checkLoad(t, d, gen, z)
		}
	}
}

// An image replaces whatever the file had, and what is in the temporary file does not get into it.
func TestSaveOverEachImage(t *testing.T) {
	contents := []string{"", "x", smallFrame, otherFrame, smallFrame[:50], smallFrame + "x", otherFrame + smallFrame, strings.Repeat("long", 1000)}
	for _, old := range contents {
		for _, tmp := range contents {
			d := newDisk(t, lots)
			put(t, d, "image", old)
			put(t, d, "image-tmp", tmp)
			checkSave(t, d, 2, other(t), api.OK)
			checkFiles(t, d, "image", otherFrame)
			checkSafe(t, d, "image", otherFrame)

			d = newDisk(t, lots)
			put(t, d, "image-tmp", tmp)
			do(t, d.Append("image", old))
			checkSave(t, d, smallGen, small(t), api.OK)
			checkSafe(t, d, "image", smallFrame)

			d = newDisk(t, lots)
			put(t, d, "image", old)
			do(t, d.Append("image-tmp", tmp))
			checkSave(t, d, smallGen, small(t), api.OK)
			checkSafe(t, d, "image", smallFrame)
		}
		d := newDisk(t, lots)
		put(t, d, "image", old)
		checkSave(t, d, 2, other(t), api.OK)
		checkSafe(t, d, "image", otherFrame)

		d = newDisk(t, lots)
		put(t, d, "image-tmp", old)
		checkSave(t, d, 2, other(t), api.OK)
		checkSafe(t, d, "image", otherFrame)
	}
}

// The steps of a saving are four changes, and the removal is one more.
func TestTheChangesOfASave(t *testing.T) {
	for _, old := range []bool{false, true} {
		for _, tmp := range []bool{false, true} {
			d := newDisk(t, lots)
			want := 4
			if old {
				put(t, d, "image", smallFrame)
			}
			if tmp {
				put(t, d, "image-tmp", "")
				want++
			}
			if n := changesOf(t, d, func() { checkSave(t, d, 2, other(t), api.OK) }); n != want {
				t.Errorf("old %v, tmp %v: Save makes %d changes; want %d", old, tmp, n, want)
			}
			if n := changesOf(t, d, func() { checkSave(t, d, 2, other(t), api.OK) }); n != 4 {
				t.Errorf("old %v, tmp %v: Save makes %d changes then", old, tmp, n)
			}
		}
	}
}

func TestSaveTheGreatestImage(t *testing.T) {
	z := great(t, maxFrame)
	d := newDisk(t, 8+maxFrame)
	checkSave(t, d, smallGen, z, api.OK)
	if b, _ := d.Read("image"); b != frameOf(smallGen, z) {
		t.Errorf("the image has %d bytes", len(b))
	}
	d.Restart("")
	checkLoad(t, d, smallGen, z)
	checkSave(t, d, smallGen, z, api.ErrFull)
	do(t, d.SetQuota(2*(8+maxFrame)))
	checkSave(t, d, 3, z, api.OK)
	if d.Used() != 8+maxFrame || snap.Size(z) != 8+maxFrame {
		t.Errorf("used %d, Size %d", d.Used(), snap.Size(z))
	}
	d.Restart("")
	checkLoad(t, d, 3, z)
}

// An image that is too long changes nothing, whatever is on the disk, and before any error of the disk.
func TestSaveAnImageThatIsTooLong(t *testing.T) {
	for _, z := range []zone.Zone{great(t, maxFrame+1), great(t, maxFrame+4000)} {
		d := newDisk(t, lots)
		checkQuiet(t, d, func() { checkSave(t, d, 2, z, api.ErrLong) })
		checkFiles(t, d)
		put(t, d, "image", smallFrame)
		put(t, d, "image-tmp", "tmp")
		checkQuiet(t, d, func() { checkSave(t, d, 2, z, api.ErrLong) })
		do(t, d.SetQuota(0))
		checkQuiet(t, d, func() { checkSave(t, d, math.MaxUint64, z, api.ErrLong) })
		do(t, d.Break(0))
		checkQuiet(t, d, func() { checkSave(t, d, 2, z, api.ErrLong) })
		checkSafe(t, d, "image", smallFrame, "image-tmp", "tmp")
		checkLoad(t, d, smallGen, small(t))
	}
}

// outcome is what a saving on a disk that breaks returns, and the files when the first so many pending changes survive.
type outcome struct {
	changes int
	want    api.Errno
	files   [][]string
}

// checkOutcomes prepares a disk whose files are all safe, and lets it break at each step of a saving. All bytes survive.
func checkOutcomes(t *testing.T, prepare func(d *disk.Disk), outcomes []outcome) {
	t.Helper()
	for _, w := range outcomes {
		for survive, files := range w.files {
			d := newDisk(t, lots)
			prepare(d)
			do(t, d.Break(w.changes))
			checkSave(t, d, 2, other(t), w.want)
			if down := w.changes < len(outcomes)-1; d.Down() != down {
				t.Errorf("a break after %d: down %v", w.changes, d.Down())
			}
			// If there were more pending changes, or fewer, another number of them would survive.
			d.Restart(string([]byte{byte(survive + 2*len(w.files)), 255, 255, 255}))
			checkFiles(t, d, files...)
			if t.Failed() {
				t.Fatalf("a break after %d, %d pending changes survive", w.changes, survive)
			}
		}
	}
}

func TestTheFirstErrorOfASave(t *testing.T) {
	checkOutcomes(t, func(*disk.Disk) {}, []outcome{
		{0, api.ErrLost, [][]string{{}}},                                                   // the removal
		{1, api.ErrLost, [][]string{{}, {"image-tmp", kept(otherFrame)}}},                  // the sync
		{2, api.ErrLost, [][]string{{}, {"image-tmp", otherFrame}}},                        // the renaming
		{3, api.ErrLost, [][]string{{}, {"image-tmp", otherFrame}, {"image", otherFrame}}}, // SyncDir
		{4, api.OK, [][]string{{"image", otherFrame}}},
		{5, api.OK, [][]string{{"image", otherFrame}}},
	})
}

func TestTheFirstErrorOfASaveOverAnImage(t *testing.T) {
	old := []string{"image", smallFrame}
	checkOutcomes(t, func(d *disk.Disk) { put(t, d, "image", smallFrame) }, []outcome{
		{0, api.ErrLost, [][]string{old}},
		{1, api.ErrLost, [][]string{old, {"image", smallFrame, "image-tmp", kept(otherFrame)}}},
		{2, api.ErrLost, [][]string{old, {"image", smallFrame, "image-tmp", otherFrame}}},
		{3, api.ErrLost, [][]string{old, {"image", smallFrame, "image-tmp", otherFrame}, {"image", otherFrame}}},
		{4, api.OK, [][]string{{"image", otherFrame}}},
		{5, api.OK, [][]string{{"image", otherFrame}}},
	})
}

func TestTheFirstErrorOfASaveWithATemporaryFile(t *testing.T) {
	old, both := []string{"image", smallFrame}, []string{"image", smallFrame, "image-tmp", "tmp"}
	prepare := func(d *disk.Disk) { put(t, d, "image", smallFrame); put(t, d, "image-tmp", "tmp") }
	checkOutcomes(t, prepare, []outcome{
		{0, api.ErrLost, [][]string{both}},
		{1, api.ErrLost, [][]string{both, old}}, // the append
		{2, api.ErrLost, [][]string{both, old, {"image", smallFrame, "image-tmp", kept(otherFrame)}}},
		{3, api.ErrLost, [][]string{both, old, {"image", smallFrame, "image-tmp", otherFrame}}},
		{4, api.ErrLost, [][]string{both, old, {"image", smallFrame, "image-tmp", otherFrame}, {"image", otherFrame}}},
		{5, api.OK, [][]string{{"image", otherFrame}}},
		{6, api.OK, [][]string{{"image", otherFrame}}},
	})
}

// kept is what the choice 255 leaves of a file without safe bytes.
func kept(b string) string {
	return b[:255*(len(b)+1)/256]
}

func TestSaveOnADiskThatIsDown(t *testing.T) {
	d := newDisk(t, lots)
	do(t, d.Break(0))
	checkQuiet(t, d, func() { checkSave(t, d, 2, other(t), api.ErrLost) })
	checkSafe(t, d)
	put(t, d, "image", smallFrame)
	put(t, d, "image-tmp", "tmp")
	do(t, d.SetQuota(0), d.Break(0))
	checkQuiet(t, d, func() { checkSave(t, d, 2, other(t), api.ErrLost) })
	checkSafe(t, d, "image", smallFrame, "image-tmp", "tmp")
}

// P20.1: Save without room

// The frame needs room beside the image, and what was in the temporary file makes room.
func TestSaveWithoutRoom(t *testing.T) {
	for _, old := range []string{"", "x", smallFrame, otherFrame} {
		for _, tmp := range []string{"", "something", strings.Repeat("more", 100)} {
			for _, short := range []int{0, 1, 2, len(otherFrame) - 1, len(otherFrame)} {
				d := newDisk(t, lots)
				put(t, d, "image", old)
				put(t, d, "log-1", "1234567890")
				put(t, d, "image-tmp", tmp)
				do(t, d.SetQuota(len(old)+10+len(otherFrame)-short))
				if short == 0 {
					checkSave(t, d, 2, other(t), api.OK)
					checkSafe(t, d, "image", otherFrame, "log-1", "1234567890")
					continue
				}
				checkSave(t, d, 2, other(t), api.ErrFull)
				checkFiles(t, d, "image", old, "log-1", "1234567890")
				checkSave(t, d, 2, other(t), api.ErrFull)
				do(t, d.SetQuota(len(old)+10+len(otherFrame)))
				checkSave(t, d, 2, other(t), api.OK)
				checkSafe(t, d, "image", otherFrame, "log-1", "1234567890")
			}
		}
	}
}

func TestSaveTheFirstImageWithoutRoom(t *testing.T) {
	d := newDisk(t, 0)
	for quota := range len(smallFrame) {
		do(t, d.SetQuota(quota))
		checkQuiet(t, d, func() { checkSave(t, d, smallGen, small(t), api.ErrFull) })
		checkFiles(t, d)
		checkNoLoad(t, d, api.ErrNone)
	}
	do(t, d.SetQuota(len(smallFrame)))
	checkSave(t, d, smallGen, small(t), api.OK)
	checkSafe(t, d, "image", smallFrame)
	checkQuiet(t, d, func() { checkSave(t, d, smallGen, small(t), api.ErrFull) })
	do(t, d.SetQuota(2*len(smallFrame)-1))
	checkQuiet(t, d, func() { checkSave(t, d, smallGen, small(t), api.ErrFull) })
	do(t, d.SetQuota(5))
	checkQuiet(t, d, func() { checkSave(t, d, smallGen, small(t), api.ErrFull) })
	do(t, d.SetQuota(2*len(smallFrame)))
	checkSave(t, d, 0, small(t), api.OK)
	checkSafe(t, d, "image", frameOf(0, small(t)))
}

// The removal of the temporary file is the only change of a saving without room. It is not made safe.
func TestTheChangesOfASaveWithoutRoom(t *testing.T) {
	for _, changes := range []int{1, 2} {
		d := newDisk(t, lots)
		put(t, d, "image", smallFrame)
		put(t, d, "image-tmp", "tmp")
		do(t, d.SetQuota(0), d.Break(changes))
		want := []api.Errno{0, api.ErrLost, api.ErrFull}[changes]
		checkSave(t, d, 2, other(t), want)
		if d.Down() != (changes == 1) {
			t.Errorf("a break after %d: down %v", changes, d.Down())
		}
		if want == api.ErrFull {
			checkFiles(t, d, "image", smallFrame)
		}
		checkSafe(t, d, "image", smallFrame, "image-tmp", "tmp")
	}
}

func TestSaveTouchesNoOtherFile(t *testing.T) {
	for _, quota := range []int{lots, 100} {
		d := newDisk(t, lots)
		put(t, d, "image", smallFrame)
		put(t, d, "image-tmp", "tmp")
		var want []string
		for _, f := range files {
			put(t, d, f, f+"'s bytes")
			want = append(want, f, f+"'s bytes")
		}
		do(t, d.SetQuota(quota))
		e, b := api.OK, otherFrame
		if quota != lots {
			e, b = api.ErrFull, smallFrame
		}
		checkSave(t, d, 2, other(t), e)
		i := 2 * (1 + slices.Index(files, "imag"))
		checkFiles(t, d, slices.Insert(want, i, "image", b)...)
	}
}

// What is not safe of other files remains so, but for their names.
func TestSaveSyncsNoOtherFile(t *testing.T) {
	d := newDisk(t, lots)
	do(t, d.Append("log-5", "not safe"), d.Append("a", "not safe"))
	checkSave(t, d, smallGen, small(t), api.OK)
	checkSafe(t, d, "a", "", "image", smallFrame, "log-5", "")
}

// P20.1: Size

func TestSize(t *testing.T) {
	for _, w := range []struct {
		z    zone.Zone
		want int
	}{
		{small(t), len(smallFrame)},
		{other(t), len(otherFrame)},
		{other(t).WithSerial(math.MaxUint32), len(otherFrame)},
		{countUp(t, 1), len(smallFrame) + 21},
		{countUp(t, 1000), len(smallFrame) + 21000},
		{great(t, maxFrame-1), maxFrame + 7},
		{great(t, maxFrame), maxFrame + 8},
		{great(t, maxFrame+1), maxFrame + 9},
		{great(t, maxFrame+4000), maxFrame + 4008},
	} {
		apex, l := w.z.Apex(), w.z.All()
		for range 2 {
			if n := snap.Size(w.z); n != w.want {
				t.Errorf("Size(%s): %d; want %d", told(l), n, w.want)
			}
		}
		checkZone(t, "the zone after Size", w.z, apex, l)
	}
}

func TestSizeIsWhatIsUsed(t *testing.T) {
	for _, z := range zones(t) {
		for _, gen := range gens {
			d := newDisk(t, snap.Size(z))
			checkSave(t, d, gen, z, api.OK)
			if d.Used() != snap.Size(z) {
				t.Errorf("used %d, Size %d", d.Used(), snap.Size(z))
			}
			d = newDisk(t, snap.Size(z)-1)
			checkSave(t, d, gen, z, api.ErrFull)
		}
	}
}

// P20.2

func TestLoad(t *testing.T) {
	d := newDisk(t, lots)
	put(t, d, "image", smallFrame)
	checkQuiet(t, d, func() { checkLoad(t, d, smallGen, small(t)) })
	set(t, d, "image", otherFrame)
	checkQuiet(t, d, func() { checkLoad(t, d, 2, other(t)) })
	do(t, d.SetQuota(0))
	checkQuiet(t, d, func() { checkLoad(t, d, 2, other(t)) })
	checkSafe(t, d, "image", otherFrame)
}

func TestLoadEachGeneration(t *testing.T) {
	for _, gen := range gens {
		for _, z := range zones(t) {
			d := newDisk(t, lots)
			put(t, d, "image", frameOf(gen, z))
			checkQuiet(t, d, func() { checkLoad(t, d, gen, z) })
		}
	}
	d := newDisk(t, lots)
	put(t, d, "image", modelFrame("\x00\x00\x00\x00\x00\x00\x00\x00"+smallBytes[8:]))
	checkLoad(t, d, 0, small(t))
	set(t, d, "image", modelFrame("\xff\xff\xff\xff\xff\xff\xff\xff"+smallBytes[8:]))
	checkLoad(t, d, 18446744073709551615, small(t))
}

// An image that Save does not write is one, too, if layer 18's Of takes it.
func TestLoadWhatSaveDoesNotWrite(t *testing.T) {
	soaPiece := smallBytes[13+len(pieceOfNS):]
	d := newDisk(t, lots)
	put(t, d, "image", modelFrame(smallBytes[:13]+soaPiece+pieceOfNS+soaPiece))
	checkLoad(t, d, smallGen, small(t))
}

func TestLoadWithoutAnImage(t *testing.T) {
	d := newDisk(t, lots)
	checkQuiet(t, d, func() { checkNoLoad(t, d, api.ErrNone) })
	put(t, d, "image-tmp", smallFrame)
	for _, f := range files {
		put(t, d, f, smallFrame)
	}
	checkQuiet(t, d, func() { checkNoLoad(t, d, api.ErrNone) })
	put(t, d, "image", smallFrame)
	do(t, d.Remove("image"))
	checkQuiet(t, d, func() { checkNoLoad(t, d, api.ErrNone) })
}

func TestLoadFromADiskThatIsDown(t *testing.T) {
	for _, b := range []string{"", "x", smallFrame, smallFrame + "x", modelFrame("x")} {
		d := newDisk(t, lots)
		do(t, d.Break(0))
		checkQuiet(t, d, func() { checkNoLoad(t, d, api.ErrLost) })
		d.Restart("")
		put(t, d, "image", b)
		do(t, d.Break(0))
		checkQuiet(t, d, func() { checkNoLoad(t, d, api.ErrLost) })
		checkSafe(t, d, "image", b)
	}
}

func checkNoFrame(t *testing.T, b string) {
	t.Helper()
	d := newDisk(t, lots)
	put(t, d, "image", b)
	checkQuiet(t, d, func() { checkNoLoad(t, d, api.ErrSum) })
	if t.Failed() {
		t.Fatalf("the file %s", brief(fmt.Sprintf("%q", b)))
	}
}

func TestLoadWhatIsNotOneFrame(t *testing.T) {
	for _, f := range []string{smallFrame, otherFrame, modelFrame(""), modelFrame("x"), modelFrame("not an image")} {
		for n := range len(f) {
			checkNoFrame(t, f[:n])
			checkNoFrame(t, f[n+1:])
			for bit := range 8 {
				checkNoFrame(t, flipped(f, n, bit))
			}
		}
		for _, g := range []string{"x", "\x00", "\xff", "\x00\x00\x00\x00\x00\x00\x00\x00", smallFrame[:8], smallFrame[:20], f, smallFrame, otherFrame, modelFrame(""), f + f} {
			checkNoFrame(t, f+g)
			checkNoFrame(t, g+f)
		}
	}
}

// A number that is too great for a frame makes none, although the sum is right and the bytes are there.
func TestLoadAFrameThatIsTooLong(t *testing.T) {
	checkNoFrame(t, frameOf(2, great(t, maxFrame+1)))
	checkNoFrame(t, "\xff\xff\xff\xff"+smallFrame[4:])
	checkNoFrame(t, "\x01\x00\x00\x01"+smallFrame[4:])
}

// plainPieces are the pieces of records without pointers.
func plainPieces(l ...api.RR) string {
	var b strings.Builder
	for _, r := range l {
		own := r.Name + four(r.Type)[2:] + four(r.Class)[2:] + four(r.TTL) + four(len(r.Data))[2:] + r.Data
		b.WriteString(four(len(own)) + own)
	}
	return b.String()
}

// notImage is what is no image, and layer 18's error for it.
type notImage struct {
	b    string
	want api.Errno
}

func notImages(t *testing.T) []notImage {
	gen, head := smallBytes[:8], smallBytes[:13]
	l := []notImage{
		{head + plainPieces(rr(apex, a, in, 5, "abc")) + smallBytes[13:], api.ErrForm},
		{smallBytes + plainPieces(rr(apex, ns, in, 5, "\x01")), api.ErrForm},
		{gen + "\x00\x00" + smallBytes[13:], api.ErrForm},
		{gen + "\x00\x02a." + smallBytes[13:], api.ErrForm},
		{gen + "\x00\x04" + apex + "\x00" + smallBytes[13:], api.ErrForm},
		{smallBytes + "x", api.ErrForm},
		{smallBytes + "\x00\x00\x00\x00", api.ErrForm},
		{smallBytes + smallBytes, api.ErrForm},
		{smallFrame, api.ErrForm},
		{head, api.ErrApex},
		{head + pieceOfNS, api.ErrApex},
		{head + smallBytes[13+len(pieceOfNS):], api.ErrApex},
		{gen + "\x00\x03\x01b\x00" + smallBytes[13:], api.ErrApex},
		{gen + "\x00\x01\x00" + smallBytes[13:], api.ErrApex},
		{smallBytes + plainPieces(rr("\x01b\x00", a, in, 5, "abcd")), api.ErrApex},
		{smallBytes + plainPieces(rr(apex, a, 3, 5, "abcd")), api.ErrApex},
		{smallBytes + plainPieces(rr(apex, 255, in, 5, "abcd")), api.ErrApex},
	}
	for n := range len(smallBytes) {
		if n != 13 && n != 13+len(pieceOfNS) {
			l = append(l, notImage{smallBytes[:n], api.ErrForm})
		}
	}
	var many strings.Builder
	for i := range maxZone - 1 {
		many.WriteString(plainPieces(rr(apex, a, in, 5, four(i))))
	}
	return append(l, notImage{smallBytes + many.String(), api.ErrLong}, notImage{head + many.String() + plainPieces(addedA, addedMX), api.ErrLong})
}

func TestLoadAFrameOfNoImage(t *testing.T) {
	for _, w := range notImages(t) {
		if _, _, e := image.Of(w.b); e != w.want {
			t.Fatalf("Of(%s): %d; want %d", brief(fmt.Sprintf("%q", w.b)), e, w.want)
		}
		d := newDisk(t, lots)
		put(t, d, "image", modelFrame(w.b))
		checkQuiet(t, d, func() { checkNoLoad(t, d, w.want) })
		checkNoFrame(t, flipped(modelFrame(w.b), 7, 0))
		checkNoFrame(t, modelFrame(w.b)+"x")
		if t.Failed() {
			t.Fatalf("the image %s", brief(fmt.Sprintf("%q", w.b)))
		}
	}
}

func TestAnImageOfTheMostRecords(t *testing.T) {
	z := countUp(t, maxZone-2)
	d := newDisk(t, lots)
	checkSave(t, d, 5, z, api.OK)
	if d.Used() != snap.Size(z) {
		t.Errorf("used %d, Size %d", d.Used(), snap.Size(z))
	}
	d.Restart("")
	checkLoad(t, d, 5, z)
}

// P20.3

// checkSweep sweeps a disk whose files are all safe, of which these are to remain.
func checkSweep(t *testing.T, d *disk.Disk, gen uint64, want ...string) {
	t.Helper()
	if e := snap.Sweep(d, gen); e != api.OK {
		t.Errorf("Sweep(%d): %d", gen, e)
	}
	checkFiles(t, d, want...)
	checkSafe(t, d, want...)
	checkQuiet(t, d, func() { do(t, snap.Sweep(d, gen)) })
}

func TestSweepWhereNothingIsRemoved(t *testing.T) {
	for _, gen := range gens {
		d := newDisk(t, lots)
		checkQuiet(t, d, func() { do(t, snap.Sweep(d, gen)) })
		checkSweep(t, d, gen)
		put(t, d, log.Name(gen), "log")
		checkQuiet(t, d, func() { do(t, snap.Sweep(d, gen)) })
		checkSweep(t, d, gen, log.Name(gen), "log")
		put(t, d, "image", "image")
		checkQuiet(t, d, func() { do(t, snap.Sweep(d, gen)) })
		checkSweep(t, d, gen, "image", "image", log.Name(gen), "log")
		do(t, d.Remove(log.Name(gen)), d.SyncDir(), d.SetQuota(0))
		checkQuiet(t, d, func() { do(t, snap.Sweep(d, gen)) })
		checkSweep(t, d, gen, "image", "image")
	}
}

func TestSweepOneFile(t *testing.T) {
	for _, f := range append(slices.Clone(files), "image-tmp", "log-4", "log-6", "log-50", "log-05", "log-", "log-5 ", "LOG-5", "log5", "Image", "image\x00") {
		if f == "log-5" {
			continue
		}
		d := newDisk(t, lots)
		put(t, d, f, "f")
		checkSweep(t, d, 5)
		put(t, d, "image", "")
		put(t, d, f, "")
		checkSweep(t, d, 5, "image", "")
		put(t, d, "log-5", "log")
		put(t, d, f, "f")
		if n := changesOf(t, d, func() { do(t, snap.Sweep(d, 5)) }); n != 2 {
			t.Errorf("Sweep makes %d changes", n)
		}
		checkSweep(t, d, 5, "image", "", "log-5", "log")
	}
}

func TestSweepAllFiles(t *testing.T) {
	for _, gen := range gens {
		d := newDisk(t, lots)
		for _, f := range files {
			put(t, d, f, f)
		}
		for _, g := range gens {
			set(t, d, log.Name(g), log.Name(g))
		}
		put(t, d, "image-tmp", "tmp")
		put(t, d, "image", "image")
		names, e := d.List()
		do(t, e)
		before := slices.Clone(names)
		checkSweep(t, d, gen, "image", "image", log.Name(gen), log.Name(gen))
		if !slices.Equal(names, before) {
			t.Errorf("Sweep changed a list that was returned earlier: %q; before %q", names, before)
		}
	}
}

// The journal that remains is that of the generation that is given, whatever the image says.
func TestSweepGoesByTheGenerationGiven(t *testing.T) {
	d := newDisk(t, lots)
	checkSave(t, d, 2, other(t), api.OK)
	for gen := range uint64(5) {
		put(t, d, log.Name(gen), log.Name(gen))
	}
	checkSweep(t, d, 3, "image", otherFrame, "log-3", "log-3")
	checkSweep(t, d, 2, "image", otherFrame)
	checkLoad(t, d, 2, other(t))
}

// A sweep of which nothing is removed leaves pending what is, and otherwise makes the names safe, but no bytes.
func TestSweepMakesTheNamesSafe(t *testing.T) {
	for _, extra := range []string{"a", "image-tmp", "log-4", "z"} {
		d := newDisk(t, lots)
		do(t, d.Append("image", "image"), d.Append("log-5", "log"))
		checkQuiet(t, d, func() { do(t, snap.Sweep(d, 5)) })
		d.Restart("")
		checkFiles(t, d)

		do(t, d.Append("image", "image"), d.Append("log-5", "log"), d.Append(extra, "extra"))
		do(t, snap.Sweep(d, 5))
		checkSafe(t, d, "image", "", "log-5", "")
	}
}

// swept are files of which a sweep for the generation 5 removes eight, before, between and behind the others.
var swept = []string{"a", "imag", "image", "image-tmp", "log-4", "log-5", "log-50", "log-6", "log-tmp", "z"}

// checkSwept checks that the first n of the files to be removed are not there, and all others are.
func checkSwept(t *testing.T, d *disk.Disk, n int) {
	t.Helper()
	var want []string
	for _, f := range swept {
		if f != "image" && f != "log-5" && n > 0 {
			n--
			continue
		}
		want = append(want, f, f+"'s bytes")
	}
	checkFiles(t, d, want...)
}

func TestTheFirstErrorOfASweep(t *testing.T) {
	const removals = 8
	for changes := range removals + 3 {
		pending := changes
		if changes > removals {
			pending = 0 // SyncDir has made them safe
		}
		for survive := range pending + 1 {
			d := newDisk(t, lots)
			for _, f := range slices.Backward(swept) { // not in the order in which they are removed
				put(t, d, f, f+"'s bytes")
			}
			do(t, d.Break(changes))
			want := api.OK
			if changes <= removals {
				want = api.ErrLost
			}
			if e := snap.Sweep(d, 5); e != want || d.Down() != (changes <= removals+1) {
				t.Errorf("Sweep, with a break after %d: %d, down %v; want %d", changes, e, d.Down(), want)
			}
			d.Restart(string([]byte{byte(survive)}))
			removed := survive
			if want == api.OK {
				removed = removals
			}
			checkSwept(t, d, removed)
			do(t, snap.Sweep(d, 5))
			checkSwept(t, d, removals)
			if t.Failed() {
				t.Fatalf("a break after %d, %d pending changes survive", changes, survive)
			}
		}
	}
}

func TestSweepOfADiskThatIsDown(t *testing.T) {
	for _, names := range [][]string{nil, {"image"}, {"log-5"}, {"image", "log-5"}, {"a"}, swept} {
		d := newDisk(t, lots)
		var want []string
		for _, f := range names {
			put(t, d, f, f)
			want = append(want, f, f)
		}
		do(t, d.Break(0))
		checkQuiet(t, d, func() {
			if e := snap.Sweep(d, 5); e != api.ErrLost {
				t.Errorf("Sweep: %d", e)
			}
		})
		checkSafe(t, d, want...)
	}
}

// A full disk is no reason not to sweep it.
func TestSweepOfAFullDisk(t *testing.T) {
	d := newDisk(t, lots)
	for _, f := range swept {
		put(t, d, f, f)
	}
	do(t, d.SetQuota(0))
	checkSweep(t, d, 5, "image", "image", "log-5", "log-5")
}

func TestSweepOfManyFiles(t *testing.T) {
	d := newDisk(t, lots)
	for i := range 3000 {
		do(t, d.Append(fmt.Sprintf("log-%d", i), "x"))
	}
	do(t, d.Append("image", "image"), d.Sync("image"), d.Sync("log-5"), d.SyncDir())
	checkSweep(t, d, 5, "image", "image", "log-5", "x")
}

// R5: what was returned and what was handed in share nothing with what comes later.

func TestWhatWasHandedInIsNotRetained(t *testing.T) {
	l := append(slices.Clone(least), foreign, foreign, foreign)
	before := slices.Clone(l)
	z := mustZone(t, apex, l[:len(least)])
	d := newDisk(t, lots)
	checkSave(t, d, smallGen, z, api.OK)
	if n := snap.Size(z); n != len(smallFrame) {
		t.Errorf("Size: %d", n)
	}
	_, y, e := snap.Load(d)
	do(t, e, snap.Sweep(d, smallGen))
	if !slices.Equal(l, before) {
		t.Errorf("the list became %s", told(l))
	}
	for i := range l {
		l[i] = scribble
	}
	checkSafe(t, d, "image", smallFrame)
	checkZone(t, "the zone that was loaded", y, apex, least)
	checkZone(t, "the zone that was saved", z, apex, least)
}

func TestZonesThatWereReturnedStay(t *testing.T) {
	d := newDisk(t, lots)
	var loaded []zone.Zone
	for i, z := range zones(t) {
		checkSave(t, d, uint64(i), z, api.OK)
		_, y, e := snap.Load(d)
		do(t, e)
		loaded = append(loaded, y)
		do(t, d.Append("image", "more"), snap.Sweep(d, 5))
		checkNoLoad(t, d, api.ErrSum)
		do(t, d.Remove("image"))
		checkNoLoad(t, d, api.ErrNone)
		checkSave(t, d, uint64(i), y.WithSerial(99), api.OK)
		for j, y := range loaded {
			checkZone(t, "a zone that was returned earlier", y, zones(t)[j].Apex(), zones(t)[j].All())
		}
	}
}

func TestTwoDisksAreApart(t *testing.T) {
	d, second := newDisk(t, lots), newDisk(t, lots)
	checkSave(t, d, smallGen, small(t), api.OK)
	checkFiles(t, second)
	checkSave(t, second, 2, other(t), api.OK)
	checkLoad(t, d, smallGen, small(t))
	checkLoad(t, second, 2, other(t))
	do(t, second.Append("x", "x"), d.Append("x", "x"), snap.Sweep(d, 5))
	checkFiles(t, d, "image", smallFrame)
	checkFiles(t, second, "image", otherFrame, "x", "x")
}

// P20.4

// saved is an image that a disk may have, or none.
type saved struct {
	any bool
	gen uint64
	z   zone.Zone
}

// history is what a disk's image may be after a restart: the last one that is certain, or the one whose saving was interrupted.
type history struct {
	last, interrupted saved
}

func isIt(s saved, gen uint64, z zone.Zone, e api.Errno) bool {
	if !s.any {
		return e == api.ErrNone
	}
	return e == api.OK && gen == s.gen && sameZone(z, s.z)
}

// save saves, and tells whether there was no error.
func (h *history) save(d *disk.Disk, gen uint64, z zone.Zone) bool {
	h.interrupted = saved{true, gen, z}
	e := snap.Save(d, gen, z)
	if e == api.OK {
		h.last = h.interrupted
	}
	if e == api.ErrFull { // the saving has ended
		h.interrupted = h.last
	}
	return e == api.OK
}

// check loads, which has to be called after a restart, and makes what it finds the certain image.
func (h *history) check(t *testing.T, d *disk.Disk) {
	t.Helper()
	gen, z, e := snap.Load(d)
	switch {
	case isIt(h.last, gen, z, e):
	case isIt(h.interrupted, gen, z, e):
		h.last = h.interrupted
	default:
		t.Fatalf("Load: %d, %s, %d; the last image was %d, the interrupted one %d", gen, told(z.All()), e, h.last.gen, h.interrupted.gen)
	}
	h.interrupted = h.last
}

// The disk breaks at each step of two savings, and again in the next one, and loses what each choice lets it lose.
func TestEveryBreak(t *testing.T) {
	all := zones(t)
	for changes := range 12 {
		for scene := range 4 {
			for pending := range 4 {
				for kept := 0; kept < 256; kept += 3 {
					d := newDisk(t, lots)
					var h history
					if scene&1 != 0 {
						h.save(d, 1, all[0])
					}
					if scene&2 != 0 {
						put(t, d, "image-tmp", smallFrame)
					}
					do(t, d.Break(changes))
					ok := h.save(d, 2, all[1]) && h.save(d, 3, all[2])
					if !ok && !d.Down() {
						t.Fatal("nothing was saved, although the disk is not down")
					}
					d.Restart(string([]byte{byte(pending), byte(kept), byte(kept)}))
					h.check(t, d)
					do(t, d.Break(1+kept%6))
					h.save(d, 4, all[3])
					d.Restart(string([]byte{byte(kept / 6 % 4), byte(255 - kept), byte(255 - kept)}))
					h.check(t, d)
					if !h.save(d, 5, all[0]) {
						t.Fatal("nothing can be saved any more")
					}
					d.Restart("")
					checkLoad(t, d, 5, all[0])
					checkFiles(t, d, "image", frameOf(5, all[0]))
					if t.Failed() {
						t.Fatalf("scene %d, a break after %d, %d and %d are kept", scene, changes, pending, kept)
					}
				}
			}
		}
	}
}

func randomChoices(r *rand.Rand) string {
	b := make([]byte, r.Intn(8))
	r.Read(b)
	return string(b)
}

func randomZone(t testing.TB, r *rand.Rand) zone.Zone {
	var l []api.RR
	for range r.Intn(4) {
		l = append(l, rr([]string{apex, "\x01x\x01a\x00", "\x01X\x01A\x00"}[r.Intn(3)], a, in, r.Intn(100), "abc"+string([]byte{byte(r.Intn(256))})))
	}
	return mustZone(t, apex, append(l, least...)).WithSerial(r.Uint32())
}

// An image is saved through many breaks, restarts and sweeps; sometimes the disk is full.
func TestManyBreaks(t *testing.T) {
	r := rand.New(rand.NewSource(3))
	for range 200 {
		d := newDisk(t, lots)
		var h history
		for gen := range uint64(60) {
			if r.Intn(2) == 0 {
				do(t, d.Break(r.Intn(10)))
			}
			if r.Intn(4) == 0 {
				do(t, d.SetQuota(d.Used()+r.Intn(200)))
			}
			d.Append([]string{"a", "image-tmp", "log-5", "log-6"}[r.Intn(4)], randomChoices(r))
			for !d.Down() && r.Intn(4) > 0 {
				h.save(d, gen, randomZone(t, r))
				if !d.Down() {
					h.check(t, d)
				}
				if r.Intn(3) == 0 {
					snap.Sweep(d, gen)
				}
			}
			do(t, d.SetQuota(lots))
			if d.Down() || r.Intn(2) == 0 {
				d.Restart(randomChoices(r))
			}
			h.check(t, d)
		}
	}
}

// P20.1 to P20.3: each step that is made on the disk, compared with the model's, wherever the disk breaks and whatever it loses

// scenes are what is on a disk before; the calls at the end are not safe.
func scenes() []func(p *pair) {
	l := []func(p *pair){func(p *pair) {}}
	for _, old := range []string{"", "abc", smallFrame, smallFrame[:50], smallFrame + smallFrame} {
		for _, tmp := range []string{"", "tmp", otherFrame} {
			l = append(l,
				func(p *pair) { p.put("image", old) },
				func(p *pair) { p.put("image-tmp", tmp); p.sync(); p.put("image", old) },
				func(p *pair) { p.put("image", old); p.put("log-2", "log"); p.sync(); p.put("image-tmp", tmp) },
				func(p *pair) { p.put("log-2", "log"); p.put("image-tmp", tmp); p.put("image", old); p.put("a", "a") },
				func(p *pair) {
					p.put("image", old)
					p.put("image-tmp", tmp)
					p.put("log-1", "log")
					p.put("z", "z")
					p.sync()
				},
				func(p *pair) { p.put("image-tmp", tmp); p.put("image", old); p.quota(len(old) + len(otherFrame) - 1) },
				func(p *pair) { p.put("image", old); p.put("image-tmp", tmp); p.sync(); p.quota(len(old) + 10) },
			)
		}
	}
	return l
}

func (p *pair) run(t *testing.T, z zone.Zone) {
	t.Helper()
	p.load(t)
	p.save(t, 2, z)
	p.load(t)
	p.sweep(t, 2)
	p.load(t)
}

func TestTheStepsOnTheDisk(t *testing.T) {
	choices := []string{"", "\x01", "\x02\x80\x40", "\x03\xff\xff", "\x00\xff\xff", "\x04\x40\x80", "\x05\xff", "\x06\x10\xff\x80", "\x07"}
	all := zones(t)
	for i, scene := range scenes() {
		for n := -1; n < 11; n++ {
			for _, c := range choices {
				p := newPair(t, lots)
				scene(p)
				if n >= 0 {
					p.breakAfter(n)
				}
				p.run(t, all[1])
				p.restart(c)
				p.check(t)
				p.run(t, all[2])
				p.restart(c)
				p.check(t)
				if t.Failed() {
					t.Fatalf("scene %d, a break after %d, and the restarts %q", i, n, c)
				}
			}
		}
	}
}

func randomBytes(t *testing.T, r *rand.Rand) string {
	f := frameOf(r.Uint64(), randomZone(t, r))
	switch r.Intn(8) {
	case 0:
		return f[:r.Intn(len(f))]
	case 1:
		return flipped(f, r.Intn(len(f)), r.Intn(8))
	case 2:
		return modelFrame(flipped(f[8:], r.Intn(len(f)-8), r.Intn(8)))
	case 3:
		return modelFrame(f[8 : 8+r.Intn(len(f)-8)])
	case 4:
		return randomChoices(r)
	}
	return f
}

func (p *pair) randomStep(t *testing.T, r *rand.Rand) {
	t.Helper()
	names := []string{"image", "image-tmp", "log-0", "log-1", "a", "z"}
	file, to := names[r.Intn(len(names))], names[r.Intn(len(names))]
	switch r.Intn(20) {
	case 0, 1, 2:
		p.put(file, randomBytes(t, r))
	case 3:
		p.both(func(d *disk.Disk) { d.Sync(file) })
	case 4:
		p.both(func(d *disk.Disk) { d.SyncDir() })
	case 5:
		p.both(func(d *disk.Disk) { d.Rename(file, to) })
	case 6:
		p.both(func(d *disk.Disk) { d.Remove(file) })
	case 7, 8:
		p.breakAfter(r.Intn(10))
	case 9, 10:
		p.restart(randomChoices(r))
	case 11:
		p.quota(p.d.Used() + r.Intn(300))
	case 12, 13, 14:
		p.sweep(t, uint64(r.Intn(3)))
	default:
		p.save(t, uint64(r.Intn(3)), randomZone(t, r))
	}
	p.load(t)
}

func TestRandomCalls(t *testing.T) {
	r := rand.New(rand.NewSource(20))
	for run := range 500 {
		p := newPair(t, 1000)
		for i := range 60 {
			if p.randomStep(t, r); t.Failed() {
				t.Fatalf("run %d, step %d: the files %q", run, i, p.names())
			}
		}
	}
}

func TestRandomFiles(t *testing.T) {
	r := rand.New(rand.NewSource(21))
	for range 10000 {
		p := newPair(t, lots)
		for n := r.Intn(20); n < 24; n += 8 {
			p.put("image", randomBytes(t, r))
		}
		p.load(t)
		if t.Failed() {
			t.Fatalf("the disk: %s", filesOf(p.d))
		}
	}
}

func FuzzLoad(f *testing.F) {
	for _, z := range zones(f) {
		f.Add(frameOf(5, z))
		f.Add(image.Bytes(5, z))
	}
	f.Fuzz(func(t *testing.T, b string) {
		for _, file := range []string{b, modelFrame(b)} {
			p := newPair(t, lots)
			p.put("image", file)
			p.load(t)
			p.run(t, small(t))
		}
	})
}
