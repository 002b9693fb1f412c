package entry_test

import (
	"beadroll/api"
	"beadroll/entry"
	"beadroll/record"
)

// The model reads the chapter once more: it writes names and pointers by itself, divides bytes by offsets, compares records field by field, and looks through whole lists. Only what a valid record is, and which record a piece begins with, it asks layer 11.

const (
	maxData = 65535
	maxTTL  = 2147483647
	maxZone = 65536
)

// The types of layer 10's list.
const (
	a     = 1
	ns    = 2
	cname = 5
	soa   = 6
	ptr   = 12
	mx    = 15
	txt   = 16
	aaaa  = 28
	srv   = 33
)

const (
	in       = 1
	none     = 254
	anyClass = 255
)

// two is a number in two bytes.
func two(n int) string {
	return string([]byte{byte(n / 256), byte(n % 256)})
}

// four is a number in four bytes.
func four(n int) string {
	return two(n/65536) + two(n%65536)
}

// writer is one record under construction, with the offsets at which it wrote each suffix of a name first. No name of a record begins at an offset that is too great for a pointer.
type writer struct {
	msg   string
	known map[string]int
}

func (w *writer) name(n string, may bool) {
	for n != "\x00" {
		if to, ok := w.known[n]; ok && may {
			w.msg += two(0xc000 + to)
			return
		}
		if _, ok := w.known[n]; !ok {
			w.known[n] = len(w.msg)
		}
		end := 1 + int(n[0])
		w.msg += n[:end]
		n = n[end:]
	}
	w.msg += "\x00"
}

// cutName divides valid data behind the name with which it begins.
func cutName(data string) (string, string) {
	end := 0
	for data[end] != 0 {
		end += 1 + int(data[end])
	}
	return data[:end+1], data[end+1:]
}

func (w *writer) data(r api.RR) {
	typ := r.Type
	if r.Class != in && (r.Class != none || r.Data == "") {
		typ = 0
	}
	switch typ {
	case ns, cname, ptr:
		w.name(r.Data, true)
	case mx:
		w.msg += r.Data[:2]
		w.name(r.Data[2:], true)
	case srv:
		w.msg += r.Data[:6]
		w.name(r.Data[6:], false)
	case soa:
		first, rest := cutName(r.Data)
		second, rest := cutName(rest)
		w.name(first, true)
		w.name(second, true)
		w.msg += rest
	default:
		w.msg += r.Data
	}
}

func modelOwn(r api.RR) (string, api.Errno) {
	if !record.Right(r) {
		return "", api.ErrForm
	}
	w := writer{known: map[string]int{}}
	w.name(r.Name, true)
	w.msg += two(r.Type) + two(r.Class) + four(r.TTL)
	before := len(w.msg)
	w.msg += "zz" // the number of bytes of the data, which are not counted yet
	w.data(r)
	return w.msg[:before] + two(len(w.msg)-before-2) + w.msg[before+2:], api.OK
}

func numberAt(b string, at int) int {
	n := 0
	for i := range 4 {
		n = n*256 + int(b[at+i])
	}
	return n
}

func modelRecords(b string) ([]api.RR, api.Errno) {
	l := []api.RR{}
	at := 0
	for at < len(b) {
		if len(b)-at < 4 || numberAt(b, at) > len(b)-at-4 {
			return nil, api.ErrForm
		}
		end := at + 4 + numberAt(b, at)
		r, size, e := record.Read(b[at+4:end], 0)
		if e != api.OK || at+4+size != end {
			return nil, api.ErrForm
		}
		l = append(l, r)
		at = end
	}
	return l, api.OK
}

func modelPieces(l []api.RR) (string, api.Errno) {
	var b []byte
	for _, r := range l {
		own, e := modelOwn(r)
		if e != api.OK {
			return "", e
		}
		b = append(b, four(len(own))+own...)
	}
	return string(b), api.OK
}

func modelBytes(x entry.Entry) (string, api.Errno) {
	del, e1 := modelPieces(x.Del)
	add, e2 := modelPieces(x.Add)
	if e1 != api.OK || e2 != api.OK || len(x.Del) > maxZone || len(x.Add) > maxZone {
		return "", api.ErrForm
	}
	return four(int(x.From)) + four(int(x.To)) + four(len(x.Del)) + del + add, api.OK
}

func modelOf(b string) (entry.Entry, api.Errno) {
	if len(b) < 12 {
		return entry.Entry{}, api.ErrForm
	}
	l, e := modelRecords(b[12:])
	if e != api.OK || numberAt(b, 8) > len(l) {
		return entry.Entry{}, api.ErrForm
	}
	x := entry.Entry{From: uint32(numberAt(b, 0)), To: uint32(numberAt(b, 4))}
	for i, r := range l {
		if i < numberAt(b, 8) {
			x.Del = append(x.Del, r)
		} else {
			x.Add = append(x.Add, r)
		}
	}
	return x, api.OK
}

func modelChain(l []entry.Entry) bool {
	for len(l) > 1 {
		if l[0].To != l[1].From {
			return false
		}
		l = l[1:]
	}
	return true
}

func modelSame(r, s api.RR) bool {
	names := r.Name == s.Name
	numbers := r.Type == s.Type && r.Class == s.Class && r.TTL == s.TTL
	return names && numbers && r.Data == s.Data
}

// modelWithout are the records of l that are not the same as r.
func modelWithout(l []api.RR, r api.RR) []api.RR {
	left := []api.RR{}
	for _, s := range l {
		if !modelSame(r, s) {
			left = append(left, s)
		}
	}
	return left
}

func modelSum(l []entry.Entry) (entry.Entry, api.Errno) {
	if len(l) == 0 || !modelChain(l) {
		return entry.Entry{}, api.ErrGap
	}
	sum := entry.Entry{From: l[0].From, To: l[len(l)-1].To}
	for _, x := range l {
		for _, r := range x.Del {
			left := modelWithout(sum.Add, r)
			if len(left) < len(sum.Add) {
				sum.Add = left
			} else if len(modelWithout(sum.Del, r)) == len(sum.Del) {
				sum.Del = append(sum.Del, r)
			}
		}
		sum.Add = append(sum.Add, x.Add...)
	}
	return sum, api.OK
}
