package copies

import (
	"math/rand"
	"slices"
	"testing"

	"leakresponse/access"
	"leakresponse/api"
)

func put(t, content, place int) api.Access {
	return api.Access{Time: t, Kind: api.AccessPut, Place: place, Content: content}
}

func remove(t, content, place int) api.Access {
	return api.Access{Time: t, Kind: api.AccessRemove, Place: place, Content: content}
}

func move(t, from, place int) api.Access {
	return api.Access{Time: t, Kind: api.AccessCopy, Place: place, From: from}
}

// P29.1 and P29.2: examples.
func TestExample(t *testing.T) {
	a := api.Estate{Places: 3, Events: []api.Access{put(1, 5, 0), move(2, 0, 1), remove(3, 5, 0), put(4, 63, 1), move(4, 1, 2), put(api.MaxTime, 5, 0)}}
	if way, ok := Way(a, 5, 1, 3); !ok || !slices.Equal(way, []int{0, 1}) {
		t.Error(way, ok)
	}
	if !slices.Equal(Holds(a, 1, 4), []int{5, 63}) || !slices.Equal(Where(a, 5, 4), []int{1, 2}) || len(Where(a, 5, 0)) > 0 {
		t.Error(Holds(a, 1, 4), Where(a, 5, 4))
	}
	end := api.MaxTime + 1
	if got := Stays(a, 5); !slices.Equal(got, []api.Stay{{Place: 0, From: 1, To: 3}, {Place: 0, From: api.MaxTime, To: end}, {Place: 1, From: 2, To: end}, {Place: 2, From: 4, To: end}}) {
		t.Error(got)
	}
	// What happens within one time does not show.
	a = api.Estate{Places: 2, Events: []api.Access{put(1, 0, 0), move(1, 0, 1), remove(1, 0, 0), remove(2, 0, 1), put(2, 0, 1)}}
	if got := Stays(a, 0); !slices.Equal(got, []api.Stay{{Place: 1, From: 1, To: end}}) {
		t.Error(got)
	}
}

// P29.1
func TestNothing(t *testing.T) {
	good := api.Estate{Places: 2, Events: []api.Access{put(1, 0, 0)}}
	bad := api.Estate{Places: 2, Events: []api.Access{put(1, 0, 0), put(0, 0, 0)}}
	for i, c := range []struct {
		a              api.Estate
		content, place int
	}{{bad, 0, 0}, {good, -1, 0}, {good, 64, 0}, {good, 0, -1}, {good, 0, 2}} {
		way, ok := Way(c.a, c.content, c.place, 1)
		if ok || len(way) > 0 || Proves(c.a, c.content, c.place, 1, []int{0}) {
			t.Error(i)
		}
		if c.content != 0 && len(Where(c.a, c.content, 1))+len(Stays(c.a, c.content)) > 0 || c.place != 0 && len(Holds(c.a, c.place, 1)) > 0 {
			t.Error(i)
		}
	}
	if len(Where(bad, 0, 1))+len(Stays(bad, 0))+len(Holds(bad, 0, 1)) > 0 {
		t.Error("not valid")
	}
	if !Proves(good, 0, 0, 1, []int{0}) {
		t.Error("Proves")
	}
}

// slow carries the contents of all places through the events.
func slow(a api.Estate, t int) [3][3]bool {
	var in [3][3]bool // place, content
	for _, x := range a.Events {
		if x.Time > t {
			continue
		}
		switch x.Kind {
		case api.AccessPut:
			in[x.Place][x.Content] = true
		case api.AccessRemove:
			in[x.Place][x.Content] = false
		case api.AccessCopy:
			for c, is := range in[x.From] {
				in[x.Place][c] = in[x.Place][c] || is
			}
		}
	}
	return in
}

// isWay follows the definition.
func isWay(a api.Estate, content, place, t int, way []int) bool {
	for k, i := range way {
		x := a.Events[i]
		if x.Time > t || k == 0 && (x.Kind != api.AccessPut || x.Content != content) || k > 0 && (x.Kind != api.AccessCopy || x.From != a.Events[way[k-1]].Place) {
			return false
		}
		for m, y := range a.Events {
			inFront := k == len(way)-1 && y.Time <= t || k < len(way)-1 && m < way[k+1]
			if m > i && inFront && y.Kind == api.AccessRemove && y.Content == content && y.Place == x.Place {
				return false
			}
		}
	}
	return len(way) > 0 && a.Events[way[len(way)-1]].Place == place
}

func random(r *rand.Rand) api.Estate {
	a := api.Estate{Places: 3}
	at := 0
	for range r.Intn(9) {
		at += r.Intn(2)
		from, place := r.Intn(3), r.Intn(3)
		x := []api.Access{put(at, r.Intn(2), place), remove(at, r.Intn(2), place), move(at, from, place), move(at, from, place), {Time: at, Kind: api.AccessUnlink, Place: place}}[r.Intn(5)]
		if x.Kind != api.AccessCopy || from != place {
			a.Events = append(a.Events, x)
		}
	}
	return a
}

func TestWays(t *testing.T) {
	r := rand.New(rand.NewSource(1))
	for range 300 {
		a := random(r)
		if access.Check(a) != api.OK {
			t.Fatal(a)
		}
		for at := -1; at < 9; at++ {
			in := slow(a, at)
			for place := range 3 {
				var holds []int
				for content := range 2 {
					is := in[place][content]
					if is {
						holds = append(holds, content)
					}
					way, ok := Way(a, content, place, at)
					if ok != is || !ok && len(way) > 0 || ok && !Proves(a, content, place, at, way) || slices.Contains(Where(a, content, at), place) != is {
						t.Fatal(a, content, place, at, way)
					}
					stays := 0
					for i, s := range Stays(a, content) {
						if s.Place == place && s.From <= at && at < s.To {
							stays++
						}
						if i > 0 {
							b := Stays(a, content)[i-1]
							if s.Place < b.Place || s.Place == b.Place && s.From <= b.To {
								t.Fatal("stays touch", a, content)
							}
						}
					}
					if stays > 1 || (stays == 1) != is {
						t.Fatal(a, content, place, at, Stays(a, content))
					}
				}
				if !slices.Equal(Holds(a, place, at), holds) {
					t.Fatal(a, place, at)
				}
			}
		}
		// All lists of events.
		at := r.Intn(9)
		for bits := range 1 << len(a.Events) {
			var way []int
			for i := range a.Events {
				if bits>>i&1 == 1 {
					way = append(way, i)
				}
			}
			for place := range 3 {
				if Proves(a, 0, place, at, way) != isWay(a, 0, place, at, way) {
					t.Fatal(a, place, at, way)
				}
			}
		}
	}
}

// P29.2
func TestProves(t *testing.T) {
	a := api.Estate{Places: 3, Events: []api.Access{put(1, 0, 0), move(2, 0, 1), move(3, 1, 0), move(4, 0, 1)}}
	for i, c := range []struct {
		place, t int
		way      []int
		want     bool
	}{{0, 4, []int{0}, true}, {1, 4, []int{0, 1}, true}, {1, 4, []int{0, 1, 2, 3}, true}, {1, 4, []int{0, 3}, true}, {1, 3, []int{0, 3}, false}, {1, 4, []int{1, 0}, false}, {1, 4, []int{0, 0, 1}, false}, {1, 4, []int{0, 4}, false}, {1, 4, []int{-1, 1}, false}, {1, 4, nil, false}, {1, 4, []int{1}, false}, {0, 4, []int{0, 1}, false}, {1, 4, []int{0, 1 << 40}, false}} {
		if Proves(a, 0, c.place, c.t, c.way) != c.want {
			t.Error(i)
		}
	}
}

// P29.2: what is removed in between, or at the time itself, and two ways that go on from one.
func TestRemoved(t *testing.T) {
	a := api.Estate{Places: 3, Events: []api.Access{put(1, 0, 0), remove(2, 0, 0), move(3, 0, 1)}}
	if Proves(a, 0, 1, 3, []int{0, 2}) || Proves(a, 0, 0, 2, []int{0}) || !Proves(a, 0, 0, 1, []int{0}) {
		t.Error("removed")
	}
	a = api.Estate{Places: 5, Events: []api.Access{put(1, 0, 0), move(2, 0, 1), move(3, 1, 2), move(4, 2, 3), move(5, 2, 4)}}
	for place, want := range [][]int{{0}, {0, 1}, {0, 1, 2}, {0, 1, 2, 3}, {0, 1, 2, 4}} {
		if way, ok := Way(a, 0, place, 9); !ok || !slices.Equal(way, want) {
			t.Error(place, way)
		}
	}
}
