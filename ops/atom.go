package ops

import (
	"strings"

	"fencepost/api"
	"fencepost/num"
	"fencepost/word"
)

const (
	equals = "="
	// shared is the thread of an atom that asks of a location: those are no thread's own.
	shared = -1
)

// Asked: is a of a thread's register, or of a location?
func Asked(a api.Atom) bool {
	if a.Thread == shared {
		return word.Name(a.Name)
	}
	return 0 <= a.Thread && a.Thread < api.MaxThreads && register(a.Name)
}

// Word is that of a; an empty text, if it is not right.
func Word(a api.Atom) string {
	if !Asked(a) {
		return ""
	}
	s := a.Name + equals + num.Text(a.N)
	if a.Thread == shared {
		return s
	}
	return num.Text(a.Thread) + colon + s
}

// Atom is the right atom whose word s is, and true; a zero one and false, if there is none.
func Atom(s string) (api.Atom, bool) {
	// A text that is no atom's makes some atom, too, but none with that word.
	if a := guessed(s); Asked(a) && Word(a) == s {
		return a, true
	}
	return api.Atom{}, false
}

// guessed is the atom that s would be, if it were one's word.
func guessed(s string) api.Atom {
	of, number, _ := strings.Cut(s, equals)
	n, _ := num.Get(number)
	thread, name, own := strings.Cut(of, colon)
	if !own {
		return api.Atom{Thread: shared, Name: of, N: n}
	}
	t, _ := num.Get(thread)
	return api.Atom{Thread: t, Name: name, N: n}
}
