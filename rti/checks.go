package rti

import (
	"errors"

	"paceline/api"
	"paceline/lbts"
	"paceline/lines"
	"paceline/vtime"
)

// check asks one thing of a call; its error tells why the call is refused.
type check func() error

// refusal tells of which federate something is refused, and holds why.
type refusal struct {
	federate int
	cause    error
}

func (r refusal) Error() string {
	return "federate " + lines.Int(r.federate) + ": " + r.cause.Error()
}

func (r refusal) Unwrap() error {
	return r.cause
}

// passed goes through the checks in their order, and tells the first one's refusal: each may lean on those ahead of it.
func passed(f int, checks ...check) error {
	for _, holds := range checks {
		if err := holds(); err != nil {
			return refusal{f, err}
		}
	}
	return nil
}

// may goes through what every call asks first that names a member f, and then through the call's own checks.
func (r *Rti) may(f int, checks ...check) error {
	return passed(f, append([]check{isFederate(f), r.is(f, (*federate).isMember, api.ErrMember), r.notSaving}, checks...)...)
}

// refuses tells whether there is no member f.
func (r *Rti) refuses(f int) bool {
	return passed(f, isFederate(f), r.is(f, (*federate).isMember, api.ErrMember)) != nil
}

// errno is the error that a refusal holds, OK of none.
func errno(err error) api.Errno {
	var cause api.Errno
	if errors.As(err, &cause) {
		return cause
	}
	return api.OK
}

// unless is e, if something does not hold.
func unless(holds bool, e api.Errno) error {
	if holds {
		return nil
	}
	return e
}

func between(n, least, most int) bool {
	return least <= n && n <= most
}

func within(n, least, most int, e api.Errno) check {
	return func() error { return unless(between(n, least, most), e) }
}

func isFederate(f int) check {
	return within(f, 0, api.MaxFeds-1, api.ErrArg)
}

// isTime asks for a time but Inf.
func isTime(t int) check {
	return within(t, 0, api.MaxTime, api.ErrTime)
}

func (r *Rti) notSaving() error {
	return unless(!r.saving, api.ErrSaving)
}

// is asks something of f itself.
func (r *Rti) is(f int, holds func(*federate) bool, e api.Errno) check {
	return func() error { return unless(holds(&r.feds[f]), e) }
}

// isNot asks the contrary.
func (r *Rti) isNot(f int, holds func(*federate) bool, e api.Errno) check {
	return func() error { return unless(!holds(&r.feds[f]), e) }
}

// mayJoin: just whom all others refuse as no member.
func (r *Rti) mayJoin(f int) check {
	return func() error { return unless(errors.Is(r.may(f), api.ErrMember), api.ErrJoined) }
}

// isAheadOfAll: what f sends must lie above what others were granted already.
func (r *Rti) isAheadOfAll(f, look int) check {
	return func() error {
		output := vtime.Add(r.feds[f].time, look)
		for other, x := range r.feds {
			if other != f && x.constrained && output <= x.time {
				return api.ErrPast
			}
		}
		return nil
	}
}

// isBehindNobody: nothing may come to f at its time or below it.
func (r *Rti) isBehindNobody(f int) check {
	return func() error { return unless(r.Bound(f) > r.feds[f].time, api.ErrPast) }
}

func (r *Rti) hasNotPassed(f, t int) check {
	return func() error { return unless(t >= r.feds[f].time, api.ErrPast) }
}

func (r *Rti) isRouted(f, c int) check {
	return func() error {
		_, err := r.who.Route(f, c)
		return unless(err == api.OK, err)
	}
}

// isNotEarly: who is not regulating has no output, and has promised nothing.
func (r *Rti) isNotEarly(f, t int) check {
	return func() error {
		return unless(!r.feds[f].regulating() || t >= lbts.Outputs(r.members())[f], api.ErrEarly)
	}
}

// haveRoom asks for room for one more message of f, of each to whom it goes.
func (r *Rti) haveRoom(f, c int, timed bool) check {
	return func() error {
		to, _ := r.who.Route(f, c)
		for _, other := range to {
			if !r.feds[other].hasRoom(r.goesTimed(f, other, timed)) {
				return api.ErrFull
			}
		}
		return nil
	}
}

// isWaiting asks for a timed message of f with the number h that waits for somebody.
func (r *Rti) isWaiting(f, h int) check {
	return func() error {
		for to := range r.feds {
			if len(r.feds[to].timedOf(f, h)) > 0 {
				return nil
			}
		}
		return api.ErrHandle
	}
}
