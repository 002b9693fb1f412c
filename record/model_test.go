package record_test

import (
	"slices"
	"strings"

	"beadroll/api"
	"beadroll/name"
	"beadroll/pack"
	"beadroll/rdata"
)

const (
	maxData = 65535
	maxTTL  = 2147483647
)

// The types of layer 10's list.
const (
	a     = 1
	ns    = 2
	cname = 5
	soa   = 6
	ptr   = 12
	mx    = 15
	txt   = 16
	aaaa  = 28
	srv   = 33
)

const (
	in       = 1
	none     = 254
	anyClass = 255
)

func inRange(n, top int) bool {
	return n >= 0 && n <= top
}

func modelRight(r api.RR) bool {
	if !name.Right(r.Name) || !inRange(r.Type, 65535) || !inRange(r.Class, 65535) || !inRange(r.TTL, maxTTL) || len(r.Data) > maxData {
		return false
	}
	switch r.Class {
	case in:
		return rdata.Right(r.Type, r.Data)
	case none:
		return r.Data == "" || rdata.Right(r.Type, r.Data)
	}
	return true
}

func modelSaid(r api.RR) string {
	if rdata.Right(r.Type, r.Data) {
		return rdata.Fold(r.Type, r.Data)
	}
	return r.Data
}

// nameKey is bytewise in the order of names: an end is below everything that could follow.
func nameKey(n string) string {
	labels, _ := name.Labels(name.Fold(n))
	slices.Reverse(labels)
	key := ""
	for _, label := range labels {
		key += "\x01"
		for _, c := range []byte(label) {
			key += string([]byte{1, c})
		}
		key += "\x00"
	}
	return key + "\x00"
}

// intKey is bytewise in the order of integers.
func intKey(n int) string {
	u := uint64(n) + 1<<63
	key := ""
	for shift := 56; shift >= 0; shift -= 8 {
		key += string([]byte{byte(u >> shift)})
	}
	return key
}

func modelCompare(a, b api.RR) int {
	first, second := "", ""
	if name.Right(a.Name) && name.Right(b.Name) {
		first, second = nameKey(a.Name), nameKey(b.Name)
	}
	first += intKey(a.Type) + intKey(a.Class) + modelSaid(a)
	second += intKey(b.Type) + intKey(b.Class) + modelSaid(b)
	return strings.Compare(first, second)
}

func modelOne(a, b api.RR) bool {
	return name.Right(a.Name) && name.Right(b.Name) && modelCompare(a, b) == 0
}

// two is a number in two bytes.
func two(n int) string {
	return string([]byte{byte(n >> 8), byte(n)})
}

// four is a number in four bytes.
func four(n int) string {
	return two(n>>16) + two(n)
}

func numberAt(msg string, at, width int) int {
	n := 0
	for i := range width {
		n = n<<8 + int(msg[at+i])
	}
	return n
}

func modelRead(msg string, at int) (api.RR, int, api.Errno) {
	if at < 0 || at > len(msg) {
		return api.RR{}, 0, api.ErrArg
	}
	n, i, e := pack.Read(msg, at)
	if e != api.OK || len(msg) < i+10 {
		return api.RR{}, 0, api.ErrForm
	}
	r := api.RR{Name: n, Type: numberAt(msg, i, 2), Class: numberAt(msg, i+2, 2), TTL: numberAt(msg, i+4, 4)}
	if r.TTL > maxTTL {
		r.TTL = 0
	}
	size := numberAt(msg, i+8, 2)
	i += 10
	if len(msg) < i+size {
		return api.RR{}, 0, api.ErrForm
	}
	r.Data = msg[i : i+size]
	if r.Class == in || r.Class == none && size > 0 {
		if r.Data, e = rdata.Read(msg, i, size, r.Type); e != api.OK {
			return api.RR{}, 0, api.ErrForm
		}
	}
	return r, i + size, api.OK
}

// history is what was done to a packer, so that it can be done again to another one.
type history []func(p *pack.Packer)

func (h history) packer() *pack.Packer {
	p := pack.New()
	for _, do := range h {
		do(p)
	}
	return p
}

func (h history) bytes() string {
	return h.packer().Bytes()
}

func (h *history) raw(b string) {
	*h = append(*h, func(p *pack.Packer) { p.Raw(b) })
}

func (h *history) name(n string, may bool) {
	*h = append(*h, func(p *pack.Packer) { p.Name(n, may) })
}

func modelData(p *pack.Packer, r api.RR) {
	if r.Class == in || r.Class == none && r.Data != "" {
		rdata.Write(p, r.Type, r.Data)
	} else {
		p.Raw(r.Data)
	}
}

// write does all once more to find out how many bytes the data has.
func (h *history) write(r api.RR) api.Errno {
	if !modelRight(r) {
		return api.ErrForm
	}
	h.name(r.Name, true)
	h.raw(two(r.Type) + two(r.Class) + four(r.TTL))
	p := h.packer()
	p.Raw("zz")
	before := p.Len()
	modelData(p, r)
	h.raw(two(p.Len() - before))
	*h = append(*h, func(p *pack.Packer) { modelData(p, r) })
	return api.OK
}
