package disk_test

import (
	"math"
	"slices"
	"strings"
	"testing"

	"beadroll/api"
	"beadroll/disk"
)

var (
	longest = strings.Repeat("n", 64)
	tooLong = strings.Repeat("n", 65)
)

func newDisk(t *testing.T, quota int) *disk.Disk {
	t.Helper()
	d, e := disk.New(quota)
	if e != api.OK {
		t.Fatalf("New(%d) = %v", quota, e)
	}
	return d
}

// do checks that calls succeeded.
func do(t *testing.T, calls ...api.Errno) {
	t.Helper()
	check(t, api.OK, calls...)
}

func check(t *testing.T, want api.Errno, calls ...api.Errno) {
	t.Helper()
	for i, got := range calls {
		if got != want {
			t.Errorf("call %d returns %d; want %d", i, got, want)
		}
	}
}

func checkRead(t *testing.T, d *disk.Disk, name, want string, wantE api.Errno) {
	t.Helper()
	if s, e := d.Read(name); s != want || e != wantE {
		t.Errorf("Read(%q) = %q, %d; want %q, %d", name, s, e, want, wantE)
	}
}

func checkList(t *testing.T, d *disk.Disk, want []string, wantE api.Errno) {
	t.Helper()
	if l, e := d.List(); !slices.Equal(l, want) || e != wantE {
		t.Errorf("List() = %q, %d; want %q, %d", l, e, want, wantE)
	}
}

func checkUsed(t *testing.T, d *disk.Disk, want int) {
	t.Helper()
	if got := d.Used(); got != want {
		t.Errorf("Used() = %d; want %d", got, want)
	}
}

func checkDown(t *testing.T, d *disk.Disk, want bool) {
	t.Helper()
	if got := d.Down(); got != want {
		t.Errorf("Down() = %v", got)
	}
}

// checkFiles checks all that can be seen of a disk that is not down: pairs of a name and its bytes, in the order of the names.
func checkFiles(t *testing.T, d *disk.Disk, pairs ...string) {
	t.Helper()
	var names []string
	used := 0
	for p := range slices.Chunk(pairs, 2) {
		names = append(names, p[0])
		used += len(p[1])
		checkRead(t, d, p[0], p[1], api.OK)
	}
	checkList(t, d, names, api.OK)
	checkUsed(t, d, used)
	checkDown(t, d, false)
}

// P4.1: New, Quota and SetQuota

func TestNew(t *testing.T) {
	for _, quota := range []int{0, 1, 10, api.MaxQuota - 1, api.MaxQuota} {
		d := newDisk(t, quota)
		if d.Quota() != quota {
			t.Errorf("Quota() = %d; want %d", d.Quota(), quota)
		}
		checkFiles(t, d)
	}
}

func TestNewWithoutAQuota(t *testing.T) {
	for _, quota := range []int{math.MinInt, -1, api.MaxQuota + 1, math.MaxInt} {
		if d, e := disk.New(quota); d != nil || e != api.ErrArg {
			t.Errorf("New(%d) = %v, %d", quota, d, e)
		}
	}
}

func TestSetQuota(t *testing.T) {
	d := newDisk(t, 5)
	for _, quota := range []int{0, 1, api.MaxQuota, 3} {
		do(t, d.SetQuota(quota))
		if d.Quota() != quota {
			t.Errorf("Quota() = %d; want %d", d.Quota(), quota)
		}
	}
	check(t, api.ErrArg, d.SetQuota(math.MinInt), d.SetQuota(-1), d.SetQuota(api.MaxQuota+1), d.SetQuota(math.MaxInt))
	if d.Quota() != 3 {
		t.Errorf("Quota() = %d after errors", d.Quota())
	}
	check(t, api.ErrFull, d.Append("a", "1234"))
	do(t, d.SetQuota(4), d.Append("a", "1234"))
}

func TestQuotaBelowUsed(t *testing.T) {
	d := newDisk(t, 10)
	do(t, d.Append("a", "12345"), d.SetQuota(4))
	checkFiles(t, d, "a", "12345")
	check(t, api.ErrFull, d.Append("a", ""), d.Append("b", ""))
	do(t, d.Sync("a"), d.Rename("a", "b"), d.SyncDir())
	checkFiles(t, d, "b", "12345")
	do(t, d.SetQuota(5), d.Append("b", ""))
	check(t, api.ErrFull, d.Append("b", "6"))
	do(t, d.Remove("b"), d.SetQuota(0), d.Append("b", ""))
}

func TestQuotaOfADiskThatIsDown(t *testing.T) {
	d := newDisk(t, 10)
	do(t, d.Append("a", "123"), d.Break(0), d.SetQuota(7))
	if d.Quota() != 7 {
		t.Errorf("Quota() = %d", d.Quota())
	}
	check(t, api.ErrArg, d.SetQuota(-1), d.Break(-1))
	checkUsed(t, d, 3)
	d.Restart("")
	if d.Quota() != 7 {
		t.Errorf("Quota() = %d after the restart", d.Quota())
	}
}

// P4.1: Used

func TestUsed(t *testing.T) {
	d := newDisk(t, 100)
	do(t, d.Append("a", "12"), d.Append("b", "345"), d.Append("c", ""))
	checkUsed(t, d, 5)
	do(t, d.Append("a", "6"), d.Sync("a"), d.SyncDir())
	checkUsed(t, d, 6)
	do(t, d.Rename("b", "d"))
	checkUsed(t, d, 6)
	do(t, d.Rename("d", "a"))
	checkUsed(t, d, 3)
	do(t, d.Remove("c"))
	checkUsed(t, d, 3)
	do(t, d.Remove("a"))
	checkUsed(t, d, 0)
}

// P4.1: Break and Down

func TestBreakAtOnce(t *testing.T) {
	d := newDisk(t, 10)
	checkDown(t, d, false)
	do(t, d.Append("a", ""), d.Break(0))
	checkDown(t, d, true)
	check(t, api.ErrLost, d.Append("a", ""))
}

// Every change counts, and the one that breaks the disk is made.
func TestBreakAfterEachChange(t *testing.T) {
	changes := []func(d *disk.Disk) api.Errno{
		func(d *disk.Disk) api.Errno { return d.Append("a", "x") },
		func(d *disk.Disk) api.Errno { return d.Append("a", "") },
		func(d *disk.Disk) api.Errno { return d.Sync("a") },
		func(d *disk.Disk) api.Errno { return d.Sync("a") },
		func(d *disk.Disk) api.Errno { return d.SyncDir() },
		func(d *disk.Disk) api.Errno { return d.SyncDir() },
		func(d *disk.Disk) api.Errno { return d.Rename("a", "b") },
		func(d *disk.Disk) api.Errno { return d.Rename("b", "b") },
		func(d *disk.Disk) api.Errno { return d.Append("c", "") },
		func(d *disk.Disk) api.Errno { return d.Remove("c") },
	}
	for n := range changes {
		d := newDisk(t, 10)
		do(t, d.Break(n))
		for i, change := range changes {
			checkDown(t, d, i >= n)
			want := api.OK
			if i >= n {
				want = api.ErrLost
			}
			check(t, want, change(d))
		}
	}
}

func TestBreakOfALargeNumber(t *testing.T) {
	d := newDisk(t, 10)
	do(t, d.Break(math.MaxInt))
	for range 1000 {
		do(t, d.Append("a", ""))
	}
	checkDown(t, d, false)
}

func TestBreakBelowZero(t *testing.T) {
	d := newDisk(t, 10)
	check(t, api.ErrArg, d.Break(-1), d.Break(math.MinInt))
	do(t, d.SyncDir())
	checkDown(t, d, false)
	do(t, d.Break(2))
	check(t, api.ErrArg, d.Break(-1)) // does not replace the Break of 2
	do(t, d.SyncDir())
	checkDown(t, d, false)
	do(t, d.SyncDir())
	checkDown(t, d, true)
	check(t, api.ErrArg, d.Break(-1))
	checkDown(t, d, true)
}

func TestSecondBreak(t *testing.T) {
	d := newDisk(t, 10)
	do(t, d.Break(1), d.Break(3), d.SyncDir(), d.SyncDir())
	checkDown(t, d, false)
	do(t, d.Break(1000), d.Break(1), d.SyncDir())
	checkDown(t, d, true)
	d.Restart("")
	do(t, d.Break(5), d.Break(0))
	checkDown(t, d, true)
	do(t, d.Break(1)) // a disk that is down is not restarted by it
	checkDown(t, d, true)
	check(t, api.ErrLost, d.SyncDir())
	checkDown(t, d, true)
	d.Restart("")
	do(t, d.SyncDir(), d.SyncDir())
	checkDown(t, d, false)
}

func TestWhatDoesNotCountForBreak(t *testing.T) {
	d := newDisk(t, 3)
	do(t, d.Append("a", "12"), d.Break(1))
	check(t, api.ErrFull, d.Append("a", "34"), d.Append("b", "34"))
	check(t, api.ErrArg, d.Append("", ""), d.Append(tooLong, ""), d.Sync(""), d.Rename("a", ""), d.Rename("", "a"), d.Remove(tooLong))
	check(t, api.ErrNone, d.Sync("b"), d.Rename("b", "a"), d.Rename("b", "b"), d.Remove("b"))
	checkFiles(t, d, "a", "12")
	d.Quota()
	do(t, d.SetQuota(4))
	checkDown(t, d, false)
	do(t, d.Append("a", "34"))
	checkDown(t, d, true)
}

// P4.2: what is a name

func TestNames(t *testing.T) {
	good := []string{"a", longest, "\x00", "\xff", " ", "/", ".", "A"}
	for _, n := range good {
		d := newDisk(t, 10)
		do(t, d.Append(n, "x"), d.Sync(n), d.Rename(n, n))
		checkFiles(t, d, n, "x")
		do(t, d.Rename(n, "b"), d.Rename("b", n), d.Remove(n))
		checkFiles(t, d)
		check(t, api.ErrNone, d.Sync(n), d.Rename(n, n), d.Rename("b", n), d.Rename(n, "b"), d.Remove(n))
		checkRead(t, d, n, "", api.ErrNone)
	}
	d := newDisk(t, 0)
	do(t, d.Append("a", ""))
	for _, n := range []string{"", tooLong, strings.Repeat("n", 1000)} {
		// ErrArg is before ErrFull and ErrNone.
		check(t, api.ErrArg, d.Append(n, ""), d.Append(n, "x"), d.Sync(n), d.Remove(n))
		check(t, api.ErrArg, d.Rename(n, n), d.Rename(n, "a"), d.Rename("a", n), d.Rename("b", n), d.Rename(n, "b"))
		checkRead(t, d, n, "", api.ErrArg)
	}
	checkFiles(t, d, "a", "")
}

func TestNamesAreDistinguishedByAllBytes(t *testing.T) {
	d := newDisk(t, 10)
	do(t, d.Append("a", "1"), d.Append("A", "2"), d.Append("a\x00", "3"), d.Append("a ", "4"))
	checkFiles(t, d, "A", "2", "a", "1", "a\x00", "3", "a ", "4")
}

// P4.2: a disk that is down

func TestDiskThatIsDown(t *testing.T) {
	d := newDisk(t, 3)
	do(t, d.Append("a", "12"), d.Sync("a"), d.SyncDir(), d.Append("a", "3"), d.Break(0))
	for _, n := range []string{"a", "b", "", tooLong} { // ErrLost is before all other errors
		check(t, api.ErrLost, d.Append(n, ""), d.Append(n, "xxxx"), d.Sync(n), d.Remove(n))
		check(t, api.ErrLost, d.Rename(n, "a"), d.Rename("a", n), d.Rename("a", "c"), d.Rename(n, "c"))
		checkRead(t, d, n, "", api.ErrLost)
	}
	check(t, api.ErrLost, d.SyncDir())
	checkList(t, d, nil, api.ErrLost)
	checkUsed(t, d, 3)
	checkDown(t, d, true)
	d.Restart("\x00\x00")
	checkFiles(t, d, "a", "12")
}

// A call on a disk that is down neither saves bytes or names nor adds a pending change.
func TestDiskThatIsDownSavesNothing(t *testing.T) {
	for c := range 256 {
		d := newDisk(t, 10)
		do(t, d.Append("a", "1"), d.Break(0))
		check(t, api.ErrLost, d.Sync("a"), d.SyncDir(), d.Rename("a", "b"), d.Append("c", ""), d.Remove("a"))
		d.Restart(string([]byte{byte(c), 0}))
		if c%2 == 0 { // of one pending change
			checkFiles(t, d)
		} else {
			checkFiles(t, d, "a", "")
		}
	}
}

// P4.2: Append

func TestAppend(t *testing.T) {
	d := newDisk(t, 10)
	do(t, d.Append("a", "12"))
	checkFiles(t, d, "a", "12")
	do(t, d.Append("a", ""), d.Append("a", "34"), d.Append("b", "\x00\xff"))
	checkFiles(t, d, "a", "1234", "b", "\x00\xff")
	do(t, d.Append("c", ""))
	checkFiles(t, d, "a", "1234", "b", "\x00\xff", "c", "")
}

func TestAppendUpToTheQuota(t *testing.T) {
	d := newDisk(t, 5)
	check(t, api.ErrFull, d.Append("a", "123456"))
	checkFiles(t, d) // not even created
	do(t, d.Append("a", "12"))
	check(t, api.ErrFull, d.Append("a", "3456"), d.Append("b", "3456"))
	checkFiles(t, d, "a", "12")
	do(t, d.Append("b", "345"))
	checkFiles(t, d, "a", "12", "b", "345")
	do(t, d.Append("a", ""), d.Append("c", ""))
	check(t, api.ErrFull, d.Append("a", "6"), d.Append("c", "6"), d.Append("d", "6"))
	checkFiles(t, d, "a", "12", "b", "345", "c", "")
	do(t, d.Remove("a"))
	check(t, api.ErrFull, d.Append("d", "678"))
	do(t, d.Append("d", "67"))
	checkFiles(t, d, "b", "345", "c", "", "d", "67")
}

func TestAppendToAFullDisk(t *testing.T) {
	d := newDisk(t, 0)
	do(t, d.Append("a", ""), d.Append("a", ""))
	check(t, api.ErrFull, d.Append("a", "1"), d.Append("b", "1"))
	checkFiles(t, d, "a", "")
}

// P4.2: Sync and SyncDir

func TestSync(t *testing.T) {
	d := newDisk(t, 20)
	check(t, api.ErrNone, d.Sync("a"))
	do(t, d.Append("a", "12"), d.Append("b", "34"), d.Sync("a"), d.SyncDir(), d.Append("a", "5"))
	checkFiles(t, d, "a", "125", "b", "34")
	d.Restart("")
	checkFiles(t, d, "a", "12", "b", "")
	do(t, d.Sync("a"), d.Append("b", "6"), d.Sync("b"), d.Append("b", "7"), d.Sync("b"))
	d.Restart("")
	checkFiles(t, d, "a", "12", "b", "67")
}

// Sync saves bytes but not their name, SyncDir the name but not the bytes.
func TestSyncAndSyncDirAreApart(t *testing.T) {
	d := newDisk(t, 20)
	do(t, d.Append("a", "12"), d.Sync("a"))
	d.Restart("")
	checkFiles(t, d)
	do(t, d.Append("a", "12"), d.SyncDir())
	d.Restart("")
	checkFiles(t, d, "a", "")
	do(t, d.Append("a", "12"), d.Sync("a"))
	d.Restart("")
	checkFiles(t, d, "a", "12")
}

func TestSyncDirSavesAllChanges(t *testing.T) {
	d := newDisk(t, 20)
	do(t, d.SyncDir())
	do(t, d.Append("a", "1"), d.Append("b", "2"), d.Append("c", "3"), d.Sync("a"), d.Sync("b"), d.Sync("c"))
	do(t, d.Rename("a", "d"), d.Remove("b"), d.SyncDir())
	d.Restart("")
	checkFiles(t, d, "c", "3", "d", "1")
	do(t, d.Remove("c"), d.SyncDir(), d.Remove("d"))
	d.Restart("")
	checkFiles(t, d, "d", "1")
}

// The safe bytes belong to the file, whatever its name.
func TestSyncOfARenamedFile(t *testing.T) {
	d := newDisk(t, 20)
	do(t, d.Append("a", "12"), d.SyncDir(), d.Rename("a", "b"), d.Append("b", "34"), d.Sync("b"), d.Append("b", "5"))
	d.Restart("")
	checkFiles(t, d, "a", "1234")
}

// P4.2: Rename and Remove

func TestRename(t *testing.T) {
	d := newDisk(t, 20)
	check(t, api.ErrNone, d.Rename("a", "b"), d.Rename("a", "a"))
	do(t, d.Append("a", "12"), d.Append("c", "3"), d.Rename("a", "b"))
	checkFiles(t, d, "b", "12", "c", "3")
	checkRead(t, d, "a", "", api.ErrNone)
	do(t, d.Append("b", "4"), d.Append("a", "5"))
	checkFiles(t, d, "a", "5", "b", "124", "c", "3")
}

func TestRenameOntoAName(t *testing.T) {
	d := newDisk(t, 20)
	do(t, d.Append("a", "12"), d.Append("b", "345"), d.Sync("a"), d.Sync("b"), d.SyncDir())
	do(t, d.Rename("a", "b"))
	checkFiles(t, d, "b", "12")
	do(t, d.Append("b", "6"))
	checkFiles(t, d, "b", "126")
	d.Restart("")
	checkFiles(t, d, "a", "12", "b", "345")
	do(t, d.Rename("a", "b"))
	d.Restart("\x01")
	checkFiles(t, d, "b", "12")
}

func TestRenameOntoItself(t *testing.T) {
	d := newDisk(t, 20)
	do(t, d.Append("a", "12"), d.Sync("a"), d.SyncDir(), d.Rename("a", "a"))
	checkFiles(t, d, "a", "12")
	do(t, d.Remove("a"))
	d.Restart("\x01") // of two pending changes the first one survives
	checkFiles(t, d, "a", "12")
	do(t, d.Rename("a", "a"), d.Break(1), d.Rename("a", "a"))
	checkDown(t, d, true)
	d.Restart("\x02")
	checkFiles(t, d, "a", "12")
}

func TestRemove(t *testing.T) {
	d := newDisk(t, 20)
	check(t, api.ErrNone, d.Remove("a"))
	do(t, d.Append("a", "12"), d.Append("b", "3"), d.Remove("a"))
	checkFiles(t, d, "b", "3")
	check(t, api.ErrNone, d.Remove("a"), d.Sync("a"), d.Rename("a", "c"))
	checkRead(t, d, "a", "", api.ErrNone)
	do(t, d.Append("a", "4")) // another file, without the bytes of the first one
	checkFiles(t, d, "a", "4", "b", "3")
}

// P4.2: Read and List

func TestReadOfANameThatDoesNotExist(t *testing.T) {
	d := newDisk(t, 20)
	checkRead(t, d, "a", "", api.ErrNone)
	do(t, d.Append("b", "1"))
	checkRead(t, d, "a", "", api.ErrNone)
	checkFiles(t, d, "b", "1")
}

func TestReadIsNotChangedLater(t *testing.T) {
	d := newDisk(t, 20)
	do(t, d.Append("a", "123"))
	s, _ := d.Read("a")
	d.Restart("")
	do(t, d.Append("a", "456"))
	if s != "123" {
		t.Errorf("what was read became %q", s)
	}
}

func TestListIsAscending(t *testing.T) {
	d := newDisk(t, 20)
	checkList(t, d, nil, api.OK)
	names := []string{"b", "a", "\xff", "ab", "\x00", "aa", "Z", "a\x00", longest, "\x7f", "\x80"}
	for _, n := range names {
		do(t, d.Append(n, ""))
	}
	l, _ := d.List()
	checkList(t, d, []string{"\x00", "Z", "a", "a\x00", "aa", "ab", "b", longest, "\x7f", "\x80", "\xff"}, api.OK)
	l[0] = "x" // the caller's own
	checkList(t, d, []string{"\x00", "Z", "a", "a\x00", "aa", "ab", "b", longest, "\x7f", "\x80", "\xff"}, api.OK)
}

// P4.3: Restart, what survives of the names

// restarted returns a disk with three safe names and four pending changes of all kinds, restarted.
func restarted(t *testing.T, choices string) *disk.Disk {
	t.Helper()
	d := newDisk(t, 100)
	do(t, d.Append("a", "1"), d.Append("b", "2"), d.Append("c", "3"), d.Sync("a"), d.Sync("b"), d.Sync("c"), d.SyncDir())
	do(t, d.Append("d", "4"), d.Sync("d"), d.Rename("a", "b"), d.Remove("c"), d.Rename("d", "c"))
	checkFiles(t, d, "b", "1", "c", "4")
	d.Restart(choices)
	return d
}

func TestRestartAfterPendingChanges(t *testing.T) {
	for c := range 256 {
		d := restarted(t, string([]byte{byte(c)}))
		switch c % 5 {
		case 0:
			checkFiles(t, d, "a", "1", "b", "2", "c", "3")
		case 1:
			checkFiles(t, d, "a", "1", "b", "2", "c", "3", "d", "4")
		case 2:
			checkFiles(t, d, "b", "1", "c", "3", "d", "4")
		case 3:
			checkFiles(t, d, "b", "1", "d", "4")
		case 4:
			checkFiles(t, d, "b", "1", "c", "4")
		}
	}
	checkFiles(t, restarted(t, ""), "a", "1", "b", "2", "c", "3")
}

// The names of one disk come and go, so that the same name has referred to several files.
func TestRestartWithSeveralFilesOfOneName(t *testing.T) {
	for kept, want := range [][]string{{"a", "1"}, {}, {"a", "2"}, {"b", "2"}, {"a", "3", "b", "2"}, {"b", "3"}} {
		d := newDisk(t, 100)
		do(t, d.Append("a", "1"), d.Sync("a"), d.SyncDir())
		do(t, d.Remove("a"), d.Append("a", "2"), d.Sync("a"), d.Rename("a", "b"), d.Append("a", "3"), d.Sync("a"), d.Rename("a", "b"))
		checkFiles(t, d, "b", "3")
		d.Restart(string([]byte{byte(kept)}))
		checkFiles(t, d, want...)
	}
}

func TestRestartWithMoreChangesThanAChoiceCounts(t *testing.T) {
	d := newDisk(t, 100)
	for range 300 {
		do(t, d.Append("a", ""), d.Remove("a"))
	}
	d.Restart("\xff") // of 600 pending changes the first 255 survive
	checkFiles(t, d, "a", "")
}

// P4.3: Restart, what survives of the bytes

func TestRestartOfBytes(t *testing.T) {
	for _, safe := range []string{"", "s", "safe"} {
		for n := range 300 {
			for _, c := range []int{0, 1, 2, 84, 85, 86, 127, 128, 129, 254, 255} {
				rest := strings.Repeat("0123456789", 30)[:n]
				d := newDisk(t, 1000)
				do(t, d.Append("a", safe), d.Sync("a"), d.SyncDir(), d.Append("a", rest))
				d.Restart(string([]byte{0, byte(c)}))
				checkFiles(t, d, "a", safe+rest[:c*(n+1)/256])
			}
		}
	}
}

// Each name has a choice of its own, also one without bytes that may be lost.
func TestRestartWithAChoiceForEachName(t *testing.T) {
	d := newDisk(t, 1000)
	do(t, d.Append("c", "123"), d.Append("a", "456"), d.Append("b", "789"), d.Append("aa", ""), d.Sync("b"), d.SyncDir())
	do(t, d.Append("b", "0"))
	d.Restart("\x00\x40\xff\x80\xff")
	checkFiles(t, d, "a", "4", "aa", "", "b", "7890", "c", "123")
}

func TestRestartWithTooFewChoices(t *testing.T) {
	d := newDisk(t, 1000)
	do(t, d.Append("a", "12"), d.Append("b", "34"), d.SyncDir())
	d.Restart("\x00\xff")
	checkFiles(t, d, "a", "12", "b", "")
	do(t, d.Append("b", "34"))
	d.Restart("\x07")
	checkFiles(t, d, "a", "12", "b", "")
}

func TestRestartWithTooManyChoices(t *testing.T) {
	d := newDisk(t, 1000)
	do(t, d.Append("a", "12"))
	d.Restart("\x01\xff\xff\xff\xff")
	checkFiles(t, d, "a", "12")
	do(t, d.Append("b", "34"))
	d.Restart("\x00") // the choices that were left are not kept
	checkFiles(t, d, "a", "12")
	d = newDisk(t, 0)
	d.Restart("\xff\xff\xff")
	checkFiles(t, d)
}

// P4.3: Restart, what holds after it

func TestAfterRestartAllIsSafe(t *testing.T) {
	d := newDisk(t, 1000)
	do(t, d.Append("a", "12"), d.Append("b", "34"), d.Append("c", "56"))
	d.Restart("\x02\xff\x80")
	checkFiles(t, d, "a", "12", "b", "3")
	for _, choices := range []string{"", "\x01", "\x02\x03\x04", "\xff\xff\xff"} {
		d.Restart(choices)
		checkFiles(t, d, "a", "12", "b", "3")
	}
	do(t, d.Append("b", "5"), d.Remove("a"))
	checkFiles(t, d, "b", "35")
	d.Restart("\x02")
	checkFiles(t, d, "a", "12", "b", "3")
}

func TestRestartWithAQuotaBelowUsed(t *testing.T) {
	d := newDisk(t, 5)
	do(t, d.Append("a", "12345"), d.Sync("a"), d.SyncDir(), d.Remove("a"), d.SetQuota(2))
	checkFiles(t, d)
	d.Restart("")
	checkFiles(t, d, "a", "12345")
	if d.Quota() != 2 {
		t.Errorf("Quota() = %d", d.Quota())
	}
}

// A removal frees bytes at once, which other files may need before it is undone.
func TestRestartAboveTheQuota(t *testing.T) {
	d := newDisk(t, 5)
	do(t, d.Append("a", "123"), d.Append("b", "45"), d.Sync("a"), d.Sync("b"), d.SyncDir())
	do(t, d.Remove("a"), d.Append("b", "678"), d.Sync("b"))
	checkFiles(t, d, "b", "45678")
	d.Restart("\x00")
	checkFiles(t, d, "a", "123", "b", "45678")
	check(t, api.ErrFull, d.Append("a", ""), d.Append("c", ""), d.Append("c", "9"))
	checkFiles(t, d, "a", "123", "b", "45678")
	do(t, d.Sync("a"), d.Rename("a", "c"), d.SyncDir())
	checkFiles(t, d, "b", "45678", "c", "123")
	do(t, d.Remove("b"), d.Append("c", "90"))
	check(t, api.ErrFull, d.Append("c", "1"))
	checkFiles(t, d, "c", "12390")
}

func TestRestartCancelsABreak(t *testing.T) {
	d := newDisk(t, 10)
	do(t, d.Break(2), d.SyncDir())
	d.Restart("")
	checkDown(t, d, false)
	for range 10 {
		do(t, d.SyncDir())
	}
	checkDown(t, d, false)
	do(t, d.Break(0))
	d.Restart("")
	checkDown(t, d, false)
	do(t, d.SyncDir())
	checkDown(t, d, false)
}

// P4.4: what was synced under a name that was synced

func TestSyncedBytesSurviveEveryRestart(t *testing.T) {
	for first := range 6 {
		for c := range 256 {
			d := newDisk(t, 1000)
			do(t, d.Append("x", "0"), d.Append("a", "12"), d.Sync("a"), d.SyncDir())
			do(t, d.Append("a", "34"), d.Sync("a"), d.Append("a", "56"))
			do(t, d.Rename("x", "y"), d.Append("b", "7"), d.Remove("b"), d.Append("z", "8"), d.Break(0))
			d.Restart(string([]byte{byte(first), byte(c), byte(c)}))
			s, e := d.Read("a")
			if e != api.OK || !strings.HasPrefix(s, "1234") || !strings.HasPrefix("123456", s) {
				t.Fatalf("after the choices %d, %d: %q, %d", first, c, s, e)
			}
		}
	}
}

// R7: two disks share nothing

func TestDisksAreIndependent(t *testing.T) {
	a, b := newDisk(t, 10), newDisk(t, 10)
	do(t, a.Append("a", "1"), b.Append("a", "22"), b.Append("b", "3"), a.SetQuota(1), a.Break(0))
	checkFiles(t, b, "a", "22", "b", "3")
	if b.Quota() != 10 {
		t.Errorf("Quota() = %d", b.Quota())
	}
	b.Restart("")
	checkFiles(t, b)
	checkUsed(t, a, 1)
	checkDown(t, a, true)
}

// R4: a call that fails changes nothing, also nothing that a restart would show

func TestErrorsChangeNothing(t *testing.T) {
	for kept := range 4 {
		d := newDisk(t, 6)
		do(t, d.Append("a", "1"), d.SyncDir(), d.Append("a", "23"), d.Append("b", "4"), d.Rename("a", "c"))
		check(t, api.ErrFull, d.Append("d", "567"), d.Append("c", "567"))
		check(t, api.ErrArg, d.Rename("c", ""), d.Rename("c", tooLong), d.Rename("", "c"), d.Append(tooLong, ""), d.Remove(""))
		check(t, api.ErrNone, d.Rename("a", "c"), d.Rename("a", "a"), d.Remove("a"), d.Sync("a"))
		checkFiles(t, d, "b", "4", "c", "123")
		d.Restart(string([]byte{byte(kept), 128, 128}))
		checkFiles(t, d, [][]string{{"a", "12"}, {"a", "12", "b", "4"}, {"b", "4", "c", "12"}, {"a", "12"}}[kept]...)
	}
}
