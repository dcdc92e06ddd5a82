package warp

import (
	"errors"
	"slices"
	"strconv"

	"paceline/api"
	"paceline/past"
	"paceline/vtime"
)

// misfit tells from whom something came that does not fit, and holds why.
type misfit struct {
	from  int
	cause error
}

func (e misfit) Error() string {
	return "what came from " + strconv.Itoa(e.from) + " does not fit: " + e.cause.Error()
}

func (e misfit) Unwrap() error {
	return e.cause
}

// Hear takes in what comes from another federate: a bound, a message, or what takes a message back. The answer: what is sent, as something was undone.
func (x *Node) Hear(from int, i api.Item) ([]api.Item, api.Errno) {
	sent, err := x.heard(from, i)
	if err != nil {
		return nil, numberOf(misfit{from, err})
	}
	return sent, api.OK
}

// numberOf finds the number of what err holds; OK, if it holds nothing that Hear tells.
func numberOf(err error) api.Errno {
	for _, why := range []api.Errno{api.ErrArg, api.ErrFull, api.ErrTwice, api.ErrNone, api.ErrEarly, api.ErrOrder} {
		if errors.Is(err, why) {
			return why
		}
	}
	return api.OK
}

// heard is Hear, but what does not fit is an error; with one nothing has changed.
func (x *Node) heard(from int, i api.Item) ([]api.Item, error) {
	if from < 0 || from >= len(x.world.Feds) || from == x.self {
		return nil, api.ErrArg
	}
	switch i.Kind {
	case api.Bound:
		return nil, x.hearBound(from, i.Msg.Key.T)
	case api.Anti:
		// Who is conservative takes nothing back.
		if x.kind(from) == conservative {
			return nil, api.ErrArg
		}
		fallthrough
	case api.Plain:
		return x.hearMessage(from, i)
	}
	return nil, api.ErrOrder
}

// hearBound moves from's clock to t.
func (x *Node) hearBound(from, t int) error {
	if x.kind(from) != conservative || !vtime.Valid(t) {
		return api.ErrArg
	}
	if t < x.clocks[from] {
		return api.ErrEarly
	}
	x.clocks[from] = t
	return nil
}

// hearMessage takes in a message, or what takes one back, unless it is below what can't be undone or what from promised.
func (x *Node) hearMessage(from int, i api.Item) ([]api.Item, error) {
	if at, is := x.clocks[from]; i.Msg.Key.T < x.Floor() || is && i.Msg.Key.T < at {
		return nil, api.ErrEarly
	}
	if i.Kind == api.Anti {
		return x.takeBack(i.Msg.Key)
	}
	return x.letWait(i.Msg)
}

// letWait lets m wait, and what was taken behind it, too.
func (x *Node) letWait(m api.Msg) ([]api.Item, error) {
	if x.waits(m.Key) || x.wasTaken(m.Key) {
		return nil, api.ErrTwice
	}
	if x.waiting.Len()+x.takenBehind(m.Key)+1 > api.MaxQueue {
		return nil, api.ErrFull
	}
	sent := x.undo(m.Key)
	x.waiting.Push(m)
	return sent, nil
}

// takeBack lets the message of the key k wait no more; or, if it was taken already, undoes it.
func (x *Node) takeBack(k api.Key) ([]api.Item, error) {
	if _, is := x.waiting.Remove(k); is {
		return nil, nil
	}
	if !x.wasTaken(k) {
		return nil, api.ErrNone
	}
	// The message itself is undone, too, but takes no room.
	if x.waiting.Len()+x.takenBehind(k) > api.MaxQueue {
		return nil, api.ErrFull
	}
	return x.undo(k), nil
}

// undo goes back to k, the last entry first: what stood behind k waits again, what was sent is taken back, and what was held is dropped. The answer: what takes it back.
func (x *Node) undo(k api.Key) []api.Item {
	var sent []api.Item
	for _, e := range x.taken.Back(k) {
		sent = append(sent, x.undone(e)...)
		// What stands at k is just what is taken back.
		if e.Msg.Key != k {
			x.waiting.Push(e.Msg)
		}
	}
	x.held.Drop(k)
	return sent
}

// undone makes the node what it was ahead of e, and tells what takes back what e sent.
func (x *Node) undone(e past.Entry) []api.Item {
	x.state, x.sent = e.Ahead, e.Sent
	return x.items(api.Anti, e.Outs)
}

func (x *Node) waits(k api.Key) bool {
	return slices.ContainsFunc(x.waiting.List(), func(m api.Msg) bool { return m.Key == k })
}

func (x *Node) wasTaken(k api.Key) bool {
	return slices.Contains(x.taken.Keys(), k)
}

// takenBehind tells how many that were taken stand behind k: as many would wait again.
func (x *Node) takenBehind(k api.Key) int {
	n := 0
	for _, done := range x.taken.Keys() {
		if vtime.Cmp(done, k) > 0 {
			n++
		}
	}
	return n
}
