package rti

import (
	"paceline/api"
	"paceline/lines"
)

// How all of it is told: one row of the parents, and for each federate one of its own numbers and four lists.
const (
	rowsEach  = 5
	rowsOfAll = 1 + rowsEach*api.MaxFeds
	ownFields = 7
	msgFields = 6
)

// head stands ahead of a list, as a row has a field at least.
const head = -1

// Rows tells all of it, but whether a save is under way.
func (r *Rti) Rows() [][]string {
	rows := [][]string{fields(r.parents...)}
	for f := range r.feds {
		rows = append(rows, r.rowsOf(f)...)
	}
	return rows
}

func (r *Rti) rowsOf(f int) [][]string {
	x := &r.feds[f]
	publishes := r.classes(func(c int) bool { return r.who.Publishes(f, c) })
	subscribes := r.classes(func(c int) bool { return x.subscribes[c] })
	return [][]string{
		fields(bit(x.member), x.time, x.look, bit(x.constrained), x.kind, x.ask, x.sent),
		fields(publishes...),
		fields(subscribes...),
		fields(messages(x.timed.List())...),
		fields(messages(x.plain)...),
	}
}

// fields writes numbers as a row.
func fields(numbers ...int) []string {
	row := make([]string, len(numbers))
	for i, n := range numbers {
		row[i] = lines.Int(n)
	}
	return row
}

func bit(is bool) int {
	if is {
		return 1
	}
	return 0
}

// classes lists those of which something holds.
func (r *Rti) classes(holds func(c int) bool) []int {
	l := []int{head}
	for c := range r.parents {
		if holds(c) {
			l = append(l, c)
		}
	}
	return l
}

// messages lists the numbers of all of them.
func messages(all []api.Msg) []int {
	l := []int{head}
	for _, m := range all {
		l = append(l, m.Key.T, m.Key.From, m.Key.Seq, m.To, m.Class, m.Body)
	}
	return l
}
