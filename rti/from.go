package rti

import (
	"slices"

	"paceline/api"
	"paceline/lines"
	"paceline/vtime"
)

// From makes the one whose Rows are rows; ErrForm, if there can be none.
func From(rows [][]string) (*Rti, api.Errno) {
	r, err := read(rows)
	if err != nil {
		return nil, api.ErrForm
	}
	return r, api.OK
}

func read(rows [][]string) (*Rti, error) {
	told, err := readNumbers(rows)
	if err != nil {
		return nil, err
	}
	r, e := New(told[0])
	if e != api.OK {
		return nil, e
	}
	// What may wait for one hangs on how many the others sent: so all own numbers come ahead of the lists.
	for f := range r.feds {
		if err := passed(f, r.readOwn(f, told[1+rowsEach*f])); err != nil {
			return nil, err
		}
	}
	for f := range r.feds {
		l := told[2+rowsEach*f:]
		if err := passed(f, r.areLists(f, l[:rowsEach-1]), r.readPublished(f, l[0]), r.readSubscribed(f, l[1]), r.readTimed(f, l[2]), r.readPlain(f, l[3])); err != nil {
			return nil, err
		}
	}
	return r, nil
}

// readNumbers reads as many rows as all of it has.
func readNumbers(rows [][]string) ([][]int, error) {
	if len(rows) != rowsOfAll {
		return nil, api.ErrForm
	}
	told := make([][]int, len(rows))
	for i, row := range rows {
		for _, field := range row {
			n, err := lines.Num(field)
			if err != api.OK {
				return nil, err
			}
			told[i] = append(told[i], n)
		}
	}
	return told, nil
}

// readOwn takes f's own numbers, if they may be.
func (r *Rti) readOwn(f int, own []int) check {
	return func() error {
		if len(own) != ownFields || !between(own[0], 0, 1) || !between(own[3], 0, 1) {
			return api.ErrForm
		}
		x := &r.feds[f]
		x.member, x.time, x.look, x.constrained = own[0] == 1, own[1], own[2], own[3] == 1
		x.kind, x.ask, x.sent = own[4], own[5], own[6]
		return unless(x.sent >= 0 && (x.mayBeMember() || x.isNobody()), api.ErrForm)
	}
}

func (x *federate) mayBeMember() bool {
	if !x.member || !between(x.time, 0, api.MaxTime) || !between(x.look, 0, maxLook) {
		return false
	}
	if !x.asking() {
		return x.ask == 0
	}
	return between(x.kind, toTime, toAll) && between(x.ask, x.time, api.MaxTime)
}

// isNobody tells whether all own numbers but how many it sent are those of no member.
func (x *federate) isNobody() bool {
	return !x.member && x.time == 0 && x.look == 0 && !x.constrained && x.kind == nothing && x.ask == 0
}

// areLists: each has its head, and of who is no member nothing else.
func (r *Rti) areLists(f int, lists [][]int) check {
	return func() error {
		for _, l := range lists {
			if len(l) == 0 || l[0] != head || len(l) > 1 && !r.feds[f].member {
				return api.ErrForm
			}
		}
		return nil
	}
}

func (r *Rti) readPublished(f int, l []int) check {
	return func() error { return readClasses(l, func(c int) api.Errno { return r.who.Publish(f, c, true) }) }
}

func (r *Rti) readSubscribed(f int, l []int) check {
	return func() error { return readClasses(l, func(c int) api.Errno { return r.Subscribe(f, c, true) }) }
}

// readClasses hands the classes of l on, if they rise and are taken.
func readClasses(l []int, take func(c int) api.Errno) error {
	for i, c := range l[1:] {
		// The head is below all classes.
		if c <= l[i] || take(c) != api.OK {
			return api.ErrForm
		}
	}
	return nil
}

// readTimed takes the timed messages that wait for f: for who is constrained alone, in their order.
func (r *Rti) readTimed(f int, l []int) check {
	return func() error {
		all, err := r.readMessages(f, l, 0)
		if err != nil || len(all) > 0 && !r.feds[f].constrained {
			return api.ErrForm
		}
		for i, m := range all {
			if i > 0 && vtime.Cmp(all[i-1].Key, m.Key) >= 0 || r.feds[f].timed.Push(m) != api.OK {
				return api.ErrForm
			}
		}
		return nil
	}
}

// readPlain takes the plain messages that wait for f; the number of one without a time is that of its sender's next timed one.
func (r *Rti) readPlain(f int, l []int) check {
	return func() error {
		all, err := r.readMessages(f, l, 1)
		if err != nil || len(all) > api.MaxQueue {
			return api.ErrForm
		}
		r.feds[f].plain = all
		return nil
	}
}

// readMessages reads what messages lists, for f; a number must be below how many its sender sent, and that many ahead.
func (r *Rti) readMessages(f int, l []int, ahead int) ([]api.Msg, error) {
	var all []api.Msg
	for part := range slices.Chunk(l[1:], msgFields) {
		if len(part) < msgFields {
			return nil, api.ErrForm
		}
		m := api.Msg{Key: api.Key{T: part[0], From: part[1], Seq: part[2]}, To: part[3], Class: part[4], Body: part[5]}
		if m.To != f || !r.mayBe(m) || m.Key.Seq >= r.feds[m.Key.From].sent+ahead {
			return nil, api.ErrForm
		}
		all = append(all, m)
	}
	return all, nil
}

// mayBe tells whether m may be sent: nobody sends to himself.
func (r *Rti) mayBe(m api.Msg) bool {
	return between(m.Key.T, 0, api.MaxTime) && between(m.Key.From, 0, api.MaxFeds-1) && m.Key.From != m.To &&
		m.Key.Seq >= 0 && between(m.Class, 0, len(r.parents)-1) && between(m.Body, 0, api.MaxBody-1)
}
