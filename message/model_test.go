package message_test

import (
	"fmt"
	"slices"
	"strconv"

	"beadroll/api"
	"beadroll/message"
	"beadroll/name"
	"beadroll/pack"
	"beadroll/record"
)

const (
	maxMessage = 65535
	maxTTL     = 2147483647
	// limit is the first offset to which no pointer can lead.
	limit = 0x4000
)

// The types of layer 10's list.
const (
	a     = 1
	ns    = 2
	cname = 5
	soa   = 6
	ptr   = 12
	mx    = 15
	txt   = 16
	aaaa  = 28
	srv   = 33
)

const (
	in       = 1
	none     = 254
	anyClass = 255
)

func inRange(n, top int) bool {
	return n >= 0 && n <= top
}

func modelFormed(m message.Msg) bool {
	if !inRange(m.ID, 65535) || !inRange(m.Op, 15) || !inRange(m.Z, 7) || !inRange(int(m.Rcode), 15) {
		return false
	}
	for _, size := range []int{len(m.Q), len(m.An), len(m.Ns), len(m.Ad)} {
		if size > 65535 {
			return false
		}
	}
	for _, q := range m.Q {
		if !name.Right(q.Name) || !inRange(q.Type, 65535) || !inRange(q.Class, 65535) {
			return false
		}
	}
	for _, r := range slices.Concat(m.An, m.Ns, m.Ad) {
		if !record.Right(r) {
			return false
		}
	}
	return true
}

// two is a number in two bytes.
func two(n int) string {
	return string([]byte{byte(n / 256), byte(n % 256)})
}

// four is a number in four bytes.
func four(n int) string {
	return two(n/65536) + two(n%65536)
}

// digit is a flag as a binary digit.
func digit(set bool) string {
	if set {
		return "1"
	}
	return "0"
}

// bits are the two bytes of the flags as one number, written digit by digit in the chapter's order.
func bits(m message.Msg) int {
	s := digit(m.QR) + fmt.Sprintf("%04b", m.Op) + digit(m.AA) + digit(m.TC) + digit(m.RD) + digit(m.RA) + fmt.Sprintf("%03b%04b", m.Z, int(m.Rcode))
	return number(s)
}

func number(digits string) int {
	n, err := strconv.ParseInt(digits, 2, 64)
	if err != nil {
		panic(err)
	}
	return int(n)
}

// ofBits is a message with an ID and with the flags, Op, Z and Rcode that n contains.
func ofBits(id, n int) message.Msg {
	s := fmt.Sprintf("%016b", n)
	return message.Msg{
		ID: id,
		QR: s[0] == '1',
		Op: number(s[1:5]),
		AA: s[5] == '1', TC: s[6] == '1', RD: s[7] == '1', RA: s[8] == '1',
		Z:     number(s[9:12]),
		Rcode: api.Rcode(number(s[12:])),
	}
}

// writer is a message under construction with the offsets at which it wrote each suffix of a name first.
type writer struct {
	msg   string
	known map[string]int
}

func (w *writer) name(n string, may bool) {
	for n != "\x00" {
		if to, ok := w.known[n]; ok && may {
			w.msg += two(0xc000 + to)
			return
		}
		if _, ok := w.known[n]; !ok && len(w.msg) < limit {
			w.known[n] = len(w.msg)
		}
		end := 1 + int(n[0])
		w.msg += n[:end]
		n = n[end:]
	}
	w.msg += "\x00"
}

// cutName divides valid data behind the name with which it begins.
func cutName(data string) (string, string) {
	end := 0
	for data[end] != 0 {
		end += 1 + int(data[end])
	}
	return data[:end+1], data[end+1:]
}

func (w *writer) data(r api.RR) {
	typ := r.Type
	if r.Class != in && (r.Class != none || r.Data == "") {
		typ = 0
	}
	switch typ {
	case ns, cname, ptr:
		w.name(r.Data, true)
	case mx:
		w.msg += r.Data[:2]
		w.name(r.Data[2:], true)
	case soa:
		first, rest := cutName(r.Data)
		second, numbers := cutName(rest)
		w.name(first, true)
		w.name(second, true)
		w.msg += numbers
	case srv:
		w.msg += r.Data[:6]
		w.name(r.Data[6:], false)
	default:
		w.msg += r.Data
	}
}

// record writes the number of bytes of the data afterwards.
func (w *writer) record(r api.RR) {
	w.name(r.Name, true)
	w.msg += two(r.Type) + two(r.Class) + four(r.TTL)
	at := len(w.msg)
	w.msg += "zz"
	w.data(r)
	w.msg = w.msg[:at] + two(len(w.msg)-at-2) + w.msg[at+2:]
}

func modelEncode(m message.Msg) (string, api.Errno) {
	if !modelFormed(m) {
		return "", api.ErrArg
	}
	w := &writer{known: map[string]int{}}
	w.msg = head(m.ID, bits(m), len(m.Q), len(m.An), len(m.Ns), len(m.Ad))
	for _, q := range m.Q {
		w.name(q.Name, true)
		w.msg += two(q.Type) + two(q.Class)
	}
	for _, r := range slices.Concat(m.An, m.Ns, m.Ad) {
		w.record(r)
	}
	if len(w.msg) > maxMessage {
		return "", api.ErrLong
	}
	return w.msg, api.OK
}

func numberAt(b string, at int) int {
	return int(b[at])*256 + int(b[at+1])
}

func modelDecode(b string) (message.Msg, api.Errno) {
	if len(b) < 12 {
		return message.Msg{}, api.ErrForm
	}
	m := ofBits(numberAt(b, 0), numberAt(b, 2))
	at := 12
	for range numberAt(b, 4) {
		n, next, e := pack.Read(b, at)
		if e != api.OK || len(b) < next+4 {
			return message.Msg{}, api.ErrForm
		}
		m.Q = append(m.Q, api.Question{Name: n, Type: numberAt(b, next), Class: numberAt(b, next+2)})
		at = next + 4
	}
	var all []api.RR
	counts := []int{numberAt(b, 6), numberAt(b, 8), numberAt(b, 10)}
	for range counts[0] + counts[1] + counts[2] {
		r, next, e := record.Read(b, at)
		if e != api.OK {
			return message.Msg{}, api.ErrForm
		}
		all = append(all, r)
		at = next
	}
	if at < len(b) {
		return message.Msg{}, api.ErrForm
	}
	m.An, all = all[:counts[0]], all[counts[0]:]
	m.Ns, m.Ad = all[:counts[1]], all[counts[1]:]
	return m, api.OK
}
