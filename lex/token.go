package lex

import (
	"strconv"
	"strings"
	"unicode/utf8"

	"pallet/api"
	"pallet/pico"
)

// digits are those of a number, signs are all that there are, each a byte.
const (
	digits = "0123456789"
	signs  = ";{}"
)

// beyond is what each number is below in size: the first one of more than MaxDigits digits.
const beyond = 1000000000000000000

// piece is what a text begins with, cut as far as it goes: a sign alone; else all letters and digits behind the first rune, even one that begins no token.
func piece(s string) string {
	for i, r := range s {
		if i > 0 && (isSign(s[:i]) || !isLetter(r) && !isDigit(r)) {
			return s[:i]
		}
	}
	return s
}

// token is the token that a piece is, which has a rune at least. What it keeps of the piece is new, lest it hold on to all of the text.
func token(s string) (api.Token, api.Errno) {
	switch {
	case isSign(s):
		return api.Token{Kind: api.SignK, S: strings.Clone(s)}, api.OK
	case Word(s):
		return api.Token{Kind: api.WordK, S: strings.Clone(s)}, api.OK
	case Word(s[:1]):
		// Letters and digits behind a letter are a word, but where they are too many.
		return api.Token{}, api.ErrLong
	}
	return number(s)
}

// number is the token of a piece that is to be a number: of any other one ErrForm is what is to be told.
func number(s string) (api.Token, api.Errno) {
	size := strings.TrimPrefix(s, "-")
	unit := strings.TrimLeft(size, digits)
	many := len(size) - len(unit)
	_, isTime := pico.Unit(unit)
	switch {
	case many == 0 || unit != "" && !isTime:
		return api.Token{}, api.ErrForm
	case many > api.MaxDigits:
		return api.Token{}, api.ErrLong
	}
	n, is := read(s, isTime)
	if !is {
		return api.Token{}, api.ErrOver
	}
	return api.Token{Kind: api.NumberK, S: strings.Clone(s), N: n, Time: isTime}, api.OK
}

// read is the number, or the time, that is written so, of MaxDigits digits at most, and whether it is small enough.
func read(s string, isTime bool) (int64, bool) {
	if isTime {
		n, e := pico.Read(s)
		return n, e == api.OK && isSmall(n)
	}
	n, err := strconv.ParseInt(s, 10, 64)
	return n, err == nil
}

// written is the text of a number that is small enough.
func written(t api.Token) string {
	if !t.Time {
		return strconv.FormatInt(t.N, 10)
	}
	s, _ := pico.Text(t.N) // MaxTime is above all small numbers.
	return s
}

// isBroken tells whether a text, at which a range over it finds that rune, begins with a byte that is no rune's: such a byte is found as a rune that may stand there itself, too.
func isBroken(s string, r rune) bool {
	return r == utf8.RuneError && !strings.HasPrefix(s, string(utf8.RuneError))
}

func isLetter(r rune) bool { return 'a' <= r && r <= 'z' }

func isDigit(r rune) bool { return '0' <= r && r <= '9' }

func isSign(s string) bool { return len(s) == 1 && strings.Contains(signs, s) }

func isSmall(n int64) bool { return -beyond < n && n < beyond }
