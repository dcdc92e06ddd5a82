package rti

import (
	"paceline/api"
	"paceline/lbts"
	"paceline/prio"
)

// What a member may have asked for.
const (
	nothing = 0
	toTime  = 1
	toAll   = 3
)

// federate is what is kept of a federate; of who is no member, how many timed messages it sent, and nothing else.
type federate struct {
	member      bool
	time        int
	look        int // 0: it is not regulating
	constrained bool
	kind, ask   int
	sent        int
	subscribes  [api.MaxClass]bool
	timed       *prio.Queue
	plain       []api.Msg
}

// nobody is a federate that is no member, and has sent that many timed messages.
func nobody(sent int) federate {
	return federate{sent: sent, timed: prio.New(api.MaxQueue)}
}

func (x *federate) isMember() bool {
	return x.member
}

func (x *federate) regulating() bool {
	return x.look != 0
}

func (x *federate) isConstrained() bool {
	return x.constrained
}

func (x *federate) asking() bool {
	return x.kind != nothing
}

// hasRoomForAll tells whether all that waits may wait as plain messages.
func (x *federate) hasRoomForAll() bool {
	return len(x.plain)+x.timed.Len() <= api.MaxQueue
}

// hasRoom tells whether one more message may wait, as a timed or a plain one.
func (x *federate) hasRoom(timed bool) bool {
	if timed {
		return x.timed.Len() < api.MaxQueue
	}
	return len(x.plain) < api.MaxQueue
}

// timedOf are the timed messages that wait, of f, with the number h.
func (x *federate) timedOf(f, h int) []api.Msg {
	var of []api.Msg
	for _, m := range x.timed.List() {
		if m.Key.From == f && m.Key.Seq == h {
			of = append(of, m)
		}
	}
	return of
}

// timesWaiting are the times of the timed messages that wait, in their order.
func (x *federate) timesWaiting() []int {
	var times []int
	for _, m := range x.timed.List() {
		times = append(times, m.Key.T)
	}
	return times
}

// take tells the first n timed messages, which wait no more.
func (x *federate) take(n int) []api.Msg {
	var taken []api.Msg
	for range n {
		m, _ := x.timed.Pop()
		taken = append(taken, m)
	}
	return taken
}

// asMember is the federate, as lbts asks for it.
func (x *federate) asMember() lbts.Member {
	first := api.Inf
	if m, is := x.timed.First(); is {
		first = m.Key.T
	}
	return lbts.Member{Regulating: x.regulating(), Constrained: x.constrained, Time: x.time, Look: x.look, Kind: x.kind, Ask: x.ask, First: first}
}
