package fed

import (
	"paceline/api"
	"paceline/cmb"
	"paceline/warp"
)

// kindOptimistic is the Kind of the federates that go ahead, and back.
const kindOptimistic = 1

// node is a federate of either kind, as far as both can do a thing. What comes to it, and what it sends, are items.
type node interface {
	hear(from int, i api.Item) ([]api.Item, api.Errno)
	step() ([]api.Item, api.Errno)
	// tell promises to send nothing below a time to whom that matters; false, if that is nothing new.
	tell() (int, bool)
	Log() []api.Done
	State() int
	Waiting() []api.Msg
}

// conservative is a federate that never goes back.
type conservative struct{ *cmb.Node }

// optimistic is a federate that may go back, till the cut settles what it has done.
type optimistic struct {
	*warp.Node
	// Its place among the participants of the cut.
	place int
	told  int
}

// nodeOf makes the node of w's federate f; place is for an optimistic one.
func nodeOf(w api.World, f, place int) node {
	// Neither is refused: w was checked, and has an f of that kind.
	if w.Feds[f].Kind == kindOptimistic {
		x, _ := warp.New(w, f)
		return &optimistic{Node: x, place: place}
	}
	x, _ := cmb.New(w, f)
	return &conservative{x}
}

func (x *conservative) hear(from int, i api.Item) ([]api.Item, api.Errno) {
	return nil, x.Hear(from, i)
}

func (x *conservative) step() ([]api.Item, api.Errno) {
	_, sent, err := x.Step()
	return plain(sent), err
}

func (x *conservative) tell() (int, bool) {
	return x.Tell()
}

func (x *optimistic) hear(from int, i api.Item) ([]api.Item, api.Errno) {
	return x.Hear(from, i)
}

func (x *optimistic) step() ([]api.Item, api.Errno) {
	_, sent, err := x.Step()
	return sent, err
}

func (x *optimistic) tell() (int, bool) {
	promise := x.Promise()
	if promise <= x.told {
		return x.told, false
	}
	x.told = promise
	return promise, true
}

// plain are messages as items.
func plain(msgs []api.Msg) []api.Item {
	var items []api.Item
	for _, m := range msgs {
		items = append(items, api.Item{Kind: api.Plain, Msg: m})
	}
	return items
}

// bound is the item that tells a federate that nothing below t comes to it any more.
func bound(t, to int) api.Item {
	return api.Item{Kind: api.Bound, Msg: api.Msg{Key: api.Key{T: t}, To: to}}
}

// isMessage tells whether i is a message, or takes one back.
func isMessage(i api.Item) bool {
	return i.Kind != api.Bound
}
