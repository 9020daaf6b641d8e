package bank_test

import (
	"strings"

	"quoin/api"
)

// The chapter's words over contents as strings, in a shelf with a place for each byte; the program's own functions are not asked.

// A content is a register's content that can be compared.
type content struct {
	set, lines bool
	text       string
}

// A shelf is a bank as contents by their names: " is the unnamed one.
type shelf [256]content

const (
	numberNames = "123456789"
	letterNames = "abcdefghijklmnopqrstuvwxyz"
	greatNames  = "ABCDEFGHIJKLMNOPQRSTUVWXYZ"
	placeNames  = `"-` + numberNames + letterNames
)

func asContent(r api.Reg) content { return content{r.Set, r.Lines, string(r.Text)} }

func asShelf(b api.Bank) shelf {
	var s shelf
	s['"'], s['-'] = asContent(b.Unnamed), asContent(b.Small)
	for i := range numberNames {
		s[numberNames[i]] = asContent(b.Numbers[i])
	}
	for i := range letterNames {
		s[letterNames[i]] = asContent(b.Names[i])
	}
	return s
}

func isName(name byte) bool {
	return name == 0 || strings.IndexByte(placeNames+greatNames, name) >= 0
}

// placeOf is where a name's content stands on the shelf.
func placeOf(name byte) byte {
	if name == 0 {
		return '"'
	}
	if i := strings.IndexByte(greatNames, name); i >= 0 {
		return letterNames[i]
	}
	return name
}

func wordGet(s shelf, name byte) (content, api.Errno) {
	if !isName(name) {
		return content{}, api.ErrName
	}
	if c := s[placeOf(name)]; c.set {
		return c, api.OK
	}
	return content{}, api.ErrEmpty
}

func wordPut(s shelf, name byte, how int, r content) (shelf, api.Errno) {
	if !isName(name) {
		return shelf{}, api.ErrName
	}
	if how < 1 || how > 3 {
		return shelf{}, api.ErrArg
	}
	if len(r.text) >= 65537 {
		return shelf{}, api.ErrLong
	}
	if r.lines && !strings.HasSuffix(r.text, "\n") {
		return shelf{}, api.ErrArg
	}
	r.set = true
	if strings.IndexByte(greatNames, name) >= 0 {
		if o := s[placeOf(name)]; o.set {
			r = wordBehind(o, r)
		}
		if len(r.text) >= 65537 {
			return shelf{}, api.ErrLong
		}
	}
	if placeOf(name) == '"' && how == api.Deleted {
		for n := byte('9'); n > '1'; n-- {
			s[n] = s[n-1]
		}
		s['1'] = r
	}
	if placeOf(name) == '"' && how == api.Small {
		s['-'] = r
	}
	s[placeOf(name)] = r
	s['"'] = r
	return s, api.OK
}

func wordBehind(o, r content) content {
	if !o.lines && !r.lines {
		return content{set: true, text: o.text + r.text}
	}
	text := strings.TrimSuffix(o.text, "\n") + "\n" + r.text
	return content{set: true, lines: true, text: strings.TrimSuffix(text, "\n") + "\n"}
}
