package fed

import (
	"slices"

	"paceline/api"
	"paceline/vtime"
)

// step lets f's node take a message, once all that it sent has gone.
func (k *Kernel) step(f int) api.Errno {
	if len(k.outboxes[f]) > 0 {
		return api.ErrFull
	}
	sent, err := k.nodes[f].step()
	if err != api.OK {
		return err
	}
	k.put(f, sent...)
	return api.OK
}

// flush lets the first item of f's outbox go onto its link.
func (k *Kernel) flush(f int) api.Errno {
	if len(k.outboxes[f]) == 0 {
		return api.ErrIdle
	}
	i := k.outboxes[f][0]
	counts := k.counts(f, i)
	if counts {
		i.Colour = k.common.Colour(k.optimist(f).place)
	}
	if err := k.net.Send(f, i.Msg.To, i); err != api.OK {
		return err
	}
	// What the link refused was not sent: so it is counted here.
	if counts {
		k.common.Sent(k.optimist(f).place, i.Msg.Key.T)
	}
	k.outboxes[f] = slices.Delete(k.outboxes[f], 0, 1)
	return api.OK
}

// deliver lets b's node hear the first item of the link from a.
func (k *Kernel) deliver(a, b int) api.Errno {
	i, is := k.net.First(a, b)
	if !is {
		return api.ErrIdle
	}
	sent, err := k.nodes[b].hear(a, i)
	if err != api.OK {
		return err
	}
	k.net.Recv(a, b)
	if k.counts(a, i) {
		k.common.Got(k.optimist(b).place, i.Colour)
	}
	k.put(b, sent...)
	return api.OK
}

// tell puts what f's node promises into its outbox, if it is new: once for each other federate, but no optimistic one minds what another one promises.
func (k *Kernel) tell(f int) api.Errno {
	if len(k.outboxes[f]) > 0 {
		return api.ErrFull
	}
	t, is := k.nodes[f].tell()
	if !is {
		return api.ErrIdle
	}
	for to := range k.nodes {
		if to != f && !k.areOptimistic(f, to) {
			k.put(f, bound(t, to))
		}
	}
	return api.OK
}

// begin begins a round of the cut.
func (k *Kernel) begin() api.Errno {
	if k.common == nil {
		return api.ErrIdle
	}
	return k.common.Begin()
}

// turn lets f turn in the round under way.
func (k *Kernel) turn(f int) api.Errno {
	x := k.optimist(f)
	if x == nil {
		return api.ErrArg
	}
	return k.common.Turn(x.place)
}

// report lets f report how far it has come; if the round is over by that, all settle what they have done.
func (k *Kernel) report(f int) api.Errno {
	x := k.optimist(f)
	if x == nil {
		return api.ErrArg
	}
	if err := k.common.Report(x.place, k.reached(f, x)); err != api.OK {
		return err
	}
	if !k.common.Under() {
		k.commit()
	}
	return api.OK
}

// reached is the time below which nothing comes of x, which is f's node, but of what the others send: what is in its outbox is not counted as sent yet.
func (k *Kernel) reached(f int, x *optimistic) int {
	times := []int{x.Local()}
	for _, i := range k.outboxes[f] {
		if k.counts(f, i) {
			times = append(times, i.Msg.Key.T)
		}
	}
	return vtime.Least(times)
}

// commit lets the optimistic nodes settle what is below the common time, and send what they held back till then.
func (k *Kernel) commit() {
	for f := range k.nodes {
		if x := k.optimist(f); x != nil {
			// None refuses it: all of them have come as far as that, and it never falls.
			_, sent, _ := x.Commit(k.common.Value())
			k.put(f, plain(sent)...)
		}
	}
}

// put lets items come to the end of f's outbox.
func (k *Kernel) put(f int, items ...api.Item) {
	k.outboxes[f] = append(k.outboxes[f], items...)
}

// counts tells whether the cut counts i, which a sends.
func (k *Kernel) counts(a int, i api.Item) bool {
	return isMessage(i) && k.areOptimistic(a, i.Msg.To)
}

func (k *Kernel) areOptimistic(a, b int) bool {
	return k.optimist(a) != nil && k.optimist(b) != nil
}
