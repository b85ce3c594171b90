package history

import (
	"slices"

	"leakresponse/api"
	"leakresponse/object"
)

func eventFormed(x api.RefEvent) bool {
	return object.Name(x.Name) && (x.Kind == api.RefSet || x.Kind == api.RefDelete && x.Commit == 0)
}

// refsThere reports whether all that events name is there, and returns the most names that there are at once.
func refsThere(l map[int]api.Object, events []api.RefEvent) (int, bool) {
	refs := map[string]int{}
	most := 0
	for _, x := range events {
		_, ok := refs[x.Name]
		if x.Kind == api.RefSet {
			ok = l[x.Commit].Kind == api.ObjectCommit
		}
		if !ok {
			return 0, false
		}
		happen(refs, x)
		most = max(most, len(refs))
	}
	return most, true
}

// namesThere reports whether all that an object names is there, and of the kind that it has to be.
func namesThere(l map[int]api.Object, o api.Object) bool {
	inTree := func(x api.Item) bool {
		return l[x.ID].Kind == api.ObjectBlob || l[x.ID].Kind == api.ObjectTree
	}
	isCommit := func(id int) bool { return l[id].Kind == api.ObjectCommit }
	for _, x := range o.Items {
		if !inTree(x) {
			return false
		}
	}
	for _, id := range o.Parents {
		if !isCommit(id) {
			return false
		}
	}
	return o.Kind != api.ObjectCommit || l[o.Tree].Kind == api.ObjectTree
}

// hasCycle leaves out what names nothing any more until nothing changes: what is left leads back to itself, or to something that does.
func hasCycle(l map[int]api.Object) bool {
	left := map[int][]int{}
	for id, o := range l {
		left[id] = named(o)
	}
	there := func(id int) bool {
		_, ok := left[id]
		return ok
	}
	for before := -1; before != len(left); {
		before = len(left)
		for id, names := range left {
			if !slices.ContainsFunc(names, there) {
				delete(left, id)
			}
		}
	}
	return len(left) > 0
}

// timesFit returns ErrRange or ErrOrder, if times are not as they should be.
func timesFit(events []api.RefEvent) api.Errno {
	if slices.ContainsFunc(events, func(x api.RefEvent) bool { return x.Time < 0 || x.Time > api.MaxTime }) {
		return api.ErrRange
	}
	for i := 1; i < len(events); i++ {
		if events[i].Time < events[i-1].Time {
			return api.ErrOrder
		}
	}
	return api.OK
}
