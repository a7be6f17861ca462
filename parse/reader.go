package parse

import (
	"glyphic/api"
	"glyphic/color"
	"glyphic/number"
	"glyphic/word"
)

const maxTurn = 3

// reader reads words, one behind the other. Behind the first that is amiss
// there are none any more: what its methods answer then is thrown away, and
// each loop ends, as nothing begins there, so that none has to ask for err.
type reader struct {
	words []word.Word // those that are left
	end   int         // the text's length
	err   error
}

// fail keeps what is amiss with the next word, unless something ahead of it was.
func (r *reader) fail(err error) {
	if r.err == nil {
		r.err = &api.At{Pos: r.next().Pos, Err: err}
	}
	r.words = nil
}

// next is the first that is left: of no kind, at the text's end, if none is.
func (r *reader) next() word.Word {
	if len(r.words) == 0 {
		return word.Word{Pos: r.end}
	}
	return r.words[0]
}

// is tells whether the next word is that Key or Mark. No word of another kind
// has the same bytes.
func (r *reader) is(text string) bool { return r.next().Text == text }

// need fails if the next word is not of the kind.
func (r *reader) need(kind int) {
	if r.next().Kind != kind {
		r.fail(api.ErrText)
	}
}

// take is the next word, which is read by that.
func (r *reader) take() word.Word {
	w := r.next()
	if len(r.words) > 0 {
		r.words = r.words[1:]
	}
	return w
}

// skip reads the next word, which has to be that Key or Mark.
func (r *reader) skip(text string) {
	if !r.try(text) {
		r.fail(api.ErrText)
	}
}

// try reads the next word if it is that Key or Mark, and tells whether it is.
func (r *reader) try(text string) bool {
	if !r.is(text) {
		return false
	}
	r.take()
	return true
}

func (r *reader) name() word.Word {
	r.need(word.Name)
	return r.take()
}

func (r *reader) number() int64 {
	n, err := number.Parse(r.next().Text)
	if err != nil {
		r.fail(api.ErrText)
	}
	r.take()
	return n
}

func (r *reader) color() api.Color {
	c, err := color.Parse(r.next().Text)
	if err != nil {
		r.fail(api.ErrText)
	}
	r.take()
	return c
}

func (r *reader) whole() int {
	n, ok := number.Whole(r.next().Text)
	if !ok {
		r.fail(api.ErrText)
	}
	r.take()
	return n
}

func (r *reader) turn() int {
	if n, ok := number.Whole(r.next().Text); ok && n > maxTurn {
		r.fail(api.ErrLimit)
	}
	return r.whole()
}

func (r *reader) val() api.Val {
	w := r.next()
	if w.Kind == word.Name {
		return api.Val{Name: r.take().Text, Pos: w.Pos}
	}
	return api.Val{N: r.number(), Pos: w.Pos}
}

// vals reads as many as there is place for.
func (r *reader) vals(into []api.Val) {
	for k := range into {
		into[k] = r.val()
	}
}

func (r *reader) ref() api.Ref {
	w := r.next()
	if w.Kind == word.Name {
		return api.Ref{Name: r.take().Text, Pos: w.Pos}
	}
	return api.Ref{C: r.color(), Pos: w.Pos}
}
