package image_test

import (
	"encoding/hex"
	"fmt"
	"regexp"
	"strconv"

	"beadroll/api"
	"beadroll/dotted"
	"beadroll/entry"
	"beadroll/record"
	"beadroll/zone"
)

// The model reads the chapter once more: it divides bytes by offsets, takes a line as a regular expression, and writes texts and digits by itself. What the own bytes of a record are, which record a piece begins with, which text is a name, and which records are a zone, it asks layers 17, 11, 8 and 14.

// number is n in so many bytes.
func number(n uint64, width int) string {
	s := ""
	for range width {
		s = string([]byte{byte(n % 256)}) + s
		n /= 256
	}
	return s
}

// piece is a piece of a width.
func piece(s string, width int) string {
	return number(uint64(len(s)), width) + s
}

func numberAt(b string, at, width int) int {
	n := 0
	for i := range width {
		n = n*256 + int(b[at+i])
	}
	return n
}

func modelBytes(gen uint64, z zone.Zone) string {
	b := []byte(number(gen, 8) + piece(z.Apex(), 2))
	for _, r := range z.All() {
		own, _ := entry.Own(r)
		b = append(b, piece(own, 4)...)
	}
	return string(b)
}

// modelRecords divides b into the pieces of records, from an offset on.
func modelRecords(b string, at int) ([]api.RR, bool) {
	l := []api.RR{}
	for at < len(b) {
		if len(b) < at+4 || len(b) < at+4+numberAt(b, at, 4) {
			return nil, false
		}
		end := at + 4 + numberAt(b, at, 4)
		r, size, e := record.Read(b[at+4:end], 0)
		if e != api.OK || at+4+size != end {
			return nil, false
		}
		l = append(l, r)
		at = end
	}
	return l, true
}

func modelOf(b string) (uint64, zone.Zone, api.Errno) {
	if len(b) < 10 || len(b) < 10+numberAt(b, 8, 2) {
		return 0, zone.Zone{}, api.ErrForm
	}
	end := 10 + numberAt(b, 8, 2)
	l, ok := modelRecords(b, end)
	if !ok {
		return 0, zone.Zone{}, api.ErrForm
	}
	z, e := zone.New(b[10:end], l)
	if e != api.OK {
		return 0, zone.Zone{}, e
	}
	gen := uint64(numberAt(b, 0, 4))<<32 + uint64(numberAt(b, 4, 4))
	return gen, z, api.OK
}

func modelText(n string) string {
	if n == "\x00" {
		return "."
	}
	s := ""
	for n != "\x00" {
		end := 1 + int(n[0])
		for _, c := range []byte(n[1:end]) {
			if c == '.' || c == '\\' {
				s += "\\" + string(rune(c))
			} else if ' ' < c && c < 0x7f {
				s += string(rune(c))
			} else {
				s += fmt.Sprintf("\\%03d", c)
			}
		}
		s += "."
		n = n[end:]
	}
	return s
}

func modelLine(r api.RR) string {
	return fmt.Sprintf("%s %d %d %d %s", modelText(r.Name), r.Type, r.Class, r.TTL, hex.EncodeToString([]byte(r.Data)))
}

func modelLines(l []api.RR) []string {
	lines := []string{}
	for _, r := range l {
		lines = append(lines, modelLine(r))
	}
	return lines
}

// A line as a grammar, over runes that stand for one byte each.
const (
	ofNumber  = ` (0|[1-9][0-9]{0,9})`
	lineMatch = `(?s)^([^ ]+)` + ofNumber + ofNumber + ofNumber + ` ((?:[0-9a-f][0-9a-f])*)$`
)

var grammar = regexp.MustCompile(lineMatch)

func runes(s string) string {
	r := make([]rune, len(s))
	for i := range len(s) {
		r[i] = rune(s[i])
	}
	return string(r)
}

func modelRecord(line string) (api.RR, bool) {
	at := grammar.FindStringSubmatch(runes(line))
	if at == nil {
		return api.RR{}, false
	}
	size := len([]rune(at[1]))
	n, e := dotted.Read(line[:size])
	if e != api.OK {
		return api.RR{}, false
	}
	r := api.RR{Name: n}
	r.Type, _ = strconv.Atoi(at[2])
	r.Class, _ = strconv.Atoi(at[3])
	r.TTL, _ = strconv.Atoi(at[4])
	data, err := hex.DecodeString(at[5])
	r.Data = string(data)
	return r, err == nil
}

func modelRead(apex string, lines []string) (zone.Zone, api.Errno) {
	l := []api.RR{}
	for _, line := range lines {
		r, ok := modelRecord(line)
		if !ok {
			return zone.Zone{}, api.ErrForm
		}
		l = append(l, r)
	}
	return zone.New(apex, l)
}
