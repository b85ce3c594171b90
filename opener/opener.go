// Package opener goes through the texts that are encoded in a text, for the layers that scan one text or many.
package opener

import (
	"slices"

	"leakresponse/api"
	"leakresponse/coding"
	"leakresponse/finder"
)

// opener hands out each text together with its layers.
type opener struct {
	left int // how many bytes the texts that are still to come may have
	see  func(layers []api.Layer, text []byte)
}

// open reports whether the texts did not have too many bytes.
func (o *opener) open(layers []api.Layer, text []byte) bool {
	o.left -= len(text)
	if o.left < 0 {
		return false
	}
	o.see(layers, text)
	if len(layers) == api.MaxLayers {
		return true
	}
	for _, r := range coding.Runs(text) {
		inner, _ := coding.Decode(r.Coding, string(text[r.From:r.To]))
		if !o.open(append(slices.Clone(layers), api.Layer(r)), inner) {
			return false
		}
	}
	return true
}

// Each hands out all texts of a text, the text itself first, or nothing if they have too many bytes.
func Each(b []byte, see func(layers []api.Layer, text []byte)) api.Errno {
	if len(b) > api.MaxBytes {
		return api.ErrLimit
	}
	var all []func()
	o := &opener{left: api.MaxDecoded, see: func(layers []api.Layer, text []byte) {
		all = append(all, func() { see(layers, text) })
	}}
	if !o.open(nil, b) {
		return api.ErrLimit
	}
	for _, call := range all {
		call()
	}
	return api.OK
}

// Hits returns the hits of the kinds of a library in all texts of a text.
func Hits(l []finder.Finder, b []byte) ([]api.Hit, api.Errno) {
	var out []api.Hit
	e := Each(b, func(layers []api.Layer, text []byte) {
		for _, m := range finder.Matches(l, text) {
			out = append(out, api.Hit{Layers: slices.Clone(layers), Match: m})
		}
	})
	return out, e
}
