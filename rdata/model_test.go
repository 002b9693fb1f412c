package rdata_test

import (
	"beadroll/api"
	"beadroll/name"
	"beadroll/pack"
)

const maxData = 65535

// The types of the chapter's list.
const (
	a     = 1
	ns    = 2
	cname = 5
	soa   = 6
	ptr   = 12
	mx    = 15
	txt   = 16
	aaaa  = 28
	srv   = 33
)

// The model reads data from its end: it divides it into the bytes before its names, the names and the bytes after them.

// before is how many bytes data of this type has before its first name.
func before(typ int) int {
	switch typ {
	case mx:
		return 2
	case srv:
		return 6
	}
	return 0
}

// after is how many bytes data of this type has after its last name.
func after(typ int) int {
	if typ == soa {
		return 20
	}
	return 0
}

// count is how many names data of this type has.
func count(typ int) int {
	switch typ {
	case ns, cname, ptr, mx, srv:
		return 1
	case soa:
		return 2
	}
	return 0
}

// modelNames tries every end of the first of so many names of which b consists.
func modelNames(b string, names int) ([]string, bool) {
	if names == 0 {
		return nil, b == ""
	}
	for i := range len(b) + 1 {
		if !name.Right(b[:i]) {
			continue
		}
		if l, ok := modelNames(b[i:], names-1); ok {
			return append([]string{b[:i]}, l...), true
		}
	}
	return nil, false
}

// modelTexts goes from length to length.
func modelTexts(b string) bool {
	i := 0
	for i < len(b) {
		i += 1 + int(b[i])
	}
	return i == len(b) && i > 0
}

// modelParts is data with names, divided.
func modelParts(typ int, data string) (head string, names []string, tail string, ok bool) {
	first, last := before(typ), len(data)-after(typ)
	if first > last {
		return "", nil, "", false
	}
	names, ok = modelNames(data[first:last], count(typ))
	return data[:first], names, data[last:], ok
}

func modelRight(typ int, data string) bool {
	if len(data) > maxData {
		return false
	}
	switch typ {
	case a:
		return len(data) == 4
	case aaaa:
		return len(data) == 16
	case txt:
		return modelTexts(data)
	case ns, cname, ptr, mx, soa, srv:
		_, _, _, ok := modelParts(typ, data)
		return ok
	}
	return true
}

func modelFold(typ int, data string) string {
	if !modelRight(typ, data) {
		return ""
	}
	if count(typ) == 0 {
		return data
	}
	head, names, tail, _ := modelParts(typ, data)
	for _, n := range names {
		head += name.Fold(n)
	}
	return head + tail
}

func modelRead(msg string, at, size, typ int) (string, api.Errno) {
	if at < 0 || size < 0 || uint64(at)+uint64(size) > uint64(len(msg)) {
		return "", api.ErrArg
	}
	end := at + size
	data := msg[at:end]
	if count(typ) > 0 && typ != srv {
		if size < before(typ) {
			return "", api.ErrForm
		}
		next := at + before(typ)
		data = msg[at:next]
		for range count(typ) {
			n, behind, e := pack.Read(msg, next)
			if e != api.OK {
				return "", api.ErrForm
			}
			data += n
			next = behind
		}
		if next+after(typ) != end {
			return "", api.ErrForm
		}
		data += msg[next:end]
	}
	if !modelRight(typ, data) {
		return "", api.ErrForm
	}
	return data, api.OK
}

func modelWrite(p *pack.Packer, typ int, data string) api.Errno {
	if !modelRight(typ, data) {
		return api.ErrForm
	}
	if count(typ) == 0 {
		p.Raw(data)
		return api.OK
	}
	head, names, tail, _ := modelParts(typ, data)
	p.Raw(head)
	for _, n := range names {
		p.Name(n, typ != srv)
	}
	p.Raw(tail)
	return api.OK
}
