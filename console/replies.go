package console

import (
	"strings"

	"paceline/api"
	"paceline/lines"
	"paceline/rti"
)

// ok is the reply to a call that answers nothing but an error.
func ok(err api.Errno) (string, api.Errno) {
	if err != api.OK {
		return "", err
	}
	return "ok", api.OK
}

// sent is the reply to a call that answers a message's number.
func sent(number int, err api.Errno) (string, api.Errno) {
	if err != api.OK {
		return "", err
	}
	return told("ok", number), api.OK
}

// seen is the reply to a look.
func seen(g rti.Given, err api.Errno) (string, api.Errno) {
	if err != api.OK {
		return "", err
	}
	parts := []string{told("at", g.Time), "waits"}
	if g.Granted {
		parts[1] = "granted"
	}
	for _, m := range g.Plain {
		parts = append(parts, told("plain", m.Key.From, m.Class, m.Body))
	}
	for _, m := range g.Timed {
		parts = append(parts, told("timed", m.Key.T, m.Key.From, m.Key.Seq, m.Class, m.Body))
	}
	return together(parts...), api.OK
}

// told is a word with numbers behind it.
func told(word string, numbers ...int) string {
	words := []string{word}
	for _, n := range numbers {
		words = append(words, lines.Int(n))
	}
	return together(words...)
}

// together puts words together, with one blank between.
func together(words ...string) string {
	return strings.Join(words, " ")
}
