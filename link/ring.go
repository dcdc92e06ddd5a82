package link

import "paceline/api"

// ring is a link's items, in an array whose end is followed by its beginning: so none is moved when one comes or goes.
type ring struct {
	items      [api.MaxLink]api.Item
	start, has int
}

// place tells where in the array the item stands that has i items ahead of it.
func (r *ring) place(i int) int {
	return (r.start + i) % len(r.items)
}

// put makes i the last item; the array must have room for it.
func (r *ring) put(i api.Item) {
	r.items[r.place(r.has)] = i
	r.has++
}

// first tells the first item, which stays; false, if there is none.
func (r *ring) first() (api.Item, bool) {
	if r.has == 0 {
		return api.Item{}, false
	}
	return r.items[r.start], true
}

// drop takes the first item away; there must be one.
func (r *ring) drop() {
	// What has gone is not kept.
	r.items[r.start] = api.Item{}
	r.start = r.place(1)
	r.has--
}
