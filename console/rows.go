package console

import (
	"strconv"
	"strings"
)

// greatest is the greatest number of a line, and the latest time.
const greatest = 1 << 62

// The kinds of words behind a row's first one.
const (
	number = 'n'
	octets = 'b'
)

// phase is when a row may be done.
type phase int

const (
	always phase = iota
	whenClosed
	whenOpen
)

// arguments are the words of a line behind the first one: its numbers in order, and its bytes.
type arguments struct {
	numbers []uint64
	bytes   []byte
}

// row is a row of the document's table.
type row struct {
	name  string
	kinds string
	phase phase
	do    func(c *Console, a arguments) (string, error)
}

func rows() []row {
	return []row{
		{"fund", "nn", whenClosed, (*Console).fund},
		{"code", "nb", whenClosed, (*Console).code},
		{"open", "", whenClosed, (*Console).open},
		{"batch", "b", whenOpen, (*Console).batch},
		{"propose", "n", whenOpen, (*Console).propose},
		{"lie", "nn", whenOpen, (*Console).lie},
		{"attack", "nnnn", whenOpen, (*Console).attack},
		{"defend", "nnnn", whenOpen, (*Console).defend},
		{"honest", "n", whenOpen, (*Console).honest},
		{"tick", "n", always, (*Console).tick},
		{"resolve", "n", whenOpen, (*Console).resolve},
		{"final", "n", whenOpen, (*Console).final},
		{"withdraw", "nn", whenOpen, (*Console).withdraw},
		{"status", "n", whenOpen, (*Console).status},
		{"balance", "n", always, (*Console).balance},
	}
}

// parse: the row of a line and its arguments, if it is not bad.
func parse(line string) (row, arguments, bool) {
	words := strings.Split(line, " ")
	for _, r := range rows() {
		if r.name == words[0] {
			a, ok := parseArguments(r.kinds, words[1:])
			return r, a, ok
		}
	}
	return row{}, arguments{}, false
}

func parseArguments(kinds string, words []string) (arguments, bool) {
	if len(words) != len(kinds) {
		return arguments{}, false
	}
	a := arguments{}
	for i, word := range words {
		ok := false
		if kinds[i] == number {
			v := uint64(0)
			v, ok = parseNumber(word)
			a.numbers = append(a.numbers, v)
		} else {
			a.bytes, ok = parseBytes(word)
		}
		if !ok {
			return arguments{}, false
		}
	}
	return a, true
}

func parseNumber(word string) (uint64, bool) {
	if len(word) > 1 && word[0] == '0' {
		return 0, false
	}
	v, err := strconv.ParseUint(word, 10, 64)
	if err != nil || v > greatest {
		return 0, false
	}
	return v, true
}

func parseBytes(word string) ([]byte, bool) {
	if word == "-" {
		return nil, true
	}
	if word == "" || len(word)%2 != 0 {
		return nil, false
	}
	b := []byte{}
	for i := 0; i < len(word); i += 2 {
		high, low := strings.IndexByte(digits, word[i]), strings.IndexByte(digits, word[i+1])
		if high < 0 || low < 0 {
			return nil, false
		}
		b = append(b, byte(16*high+low))
	}
	return b, true
}

const digits = "0123456789abcdef"

// told: words with a blank between each two, or an error alone.
func told(first string, v int, err error) (string, error) {
	if err != nil {
		return "", err
	}
	return first + " " + strconv.Itoa(v), nil
}

// done: ok, or an error alone.
func done(err error) (string, error) {
	if err != nil {
		return "", err
	}
	return "ok", nil
}
