package parse

import "pallet/api"

// The types of tokens. Behind a text's last one stands an end, so that there is always one to be asked.
type (
	word   string
	number api.Num
	sign   string
	end    struct{}
)

// The signs.
const (
	stop   sign = ";"
	opens  sign = "{"
	closes sign = "}"
)

// typed are tokens, each of its type.
func typed(tokens []api.Token) []any {
	var l []any
	for _, t := range tokens {
		switch t.Kind {
		case api.WordK:
			l = append(l, word(t.S))
		case api.NumberK:
			l = append(l, number{N: t.N, Time: t.Time})
		default:
			l = append(l, sign(t.S))
		}
	}
	return append(l, end{})
}

// reader goes through tokens, and stops at the first one that is wrong: at which one it is, and how many statements have begun.
type reader struct {
	tokens []any
	at     int
	many   int
}

func (r *reader) now() any { return r.tokens[r.at] }

// all is the statements of all tokens.
func (r *reader) all() ([]api.Stmt, api.Errno) {
	l, e := r.list(1)
	if e != api.OK {
		return nil, e
	}
	if _, is := r.now().(end); !is {
		return nil, api.ErrForm
	}
	return l, api.OK
}

// list is the statements, so deep, ahead of the first token that begins none.
func (r *reader) list(deep int) ([]api.Stmt, api.Errno) {
	var l []api.Stmt
	for {
		name, is := r.now().(word)
		if !is {
			return l, api.OK
		}
		x, e := r.statement(name, deep)
		if e != api.OK {
			return nil, e
		}
		l = append(l, x)
	}
}

// statement is the one that begins with this word, which stands here.
func (r *reader) statement(name word, deep int) (api.Stmt, api.Errno) {
	if r.many == api.MaxStmts {
		return api.Stmt{}, api.ErrFull
	}
	r.many++
	r.at++
	nums, e := r.numbers()
	if e != api.OK {
		return api.Stmt{}, e
	}
	switch r.now().(type) {
	case word, end:
		return api.Stmt{}, r.wrong()
	}
	x := api.Stmt{Word: string(name), Nums: nums}
	switch r.now().(sign) {
	case stop:
		r.at++
	case opens:
		x.Block = true
		x.Body, e = r.block(deep + 1)
	default:
		e = r.wrong()
	}
	if e != api.OK {
		return api.Stmt{}, e
	}
	return x, api.OK
}

// numbers is the numbers ahead of the first token that is none.
func (r *reader) numbers() ([]api.Num, api.Errno) {
	var l []api.Num
	for {
		n, is := r.now().(number)
		if !is {
			return l, api.OK
		}
		if len(l) == api.MaxNums {
			return nil, api.ErrFull
		}
		l = append(l, api.Num(n))
		r.at++
	}
}

// block is the statements, so deep, from its { on, which stands here, to its }.
func (r *reader) block(deep int) ([]api.Stmt, api.Errno) {
	if deep > api.MaxDepth {
		return nil, api.ErrLong
	}
	r.at++
	l, e := r.list(deep)
	if e != api.OK {
		return nil, e
	}
	if mark, is := r.now().(sign); !is || mark != closes {
		return nil, r.wrong()
	}
	r.at++
	return l, api.OK
}

// wrong is what is told of a token that may not stand here.
func (r *reader) wrong() api.Errno {
	if _, is := r.now().(end); is {
		return api.ErrShort
	}
	return api.ErrForm
}
