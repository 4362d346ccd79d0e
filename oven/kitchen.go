package oven

import (
	"slices"

	"apiary/api"
	"apiary/trellis"
)

// kitchen is a build with the results of its names: at first of its sources, then of its actions too.
type kitchen struct {
	api.Graph
	results map[string]api.Result
}

// open: a kitchen in which all of a build is made; the error of trellis.Check, ErrTwice, ErrMiss, ErrWide.
func open(g api.Graph, sources ...api.Source) (kitchen, api.Errno) {
	if e := trellis.Check(g); e != api.OK {
		return kitchen{}, e
	}
	k := kitchen{Graph: g, results: map[string]api.Result{}}
	if !k.lay(sources...) {
		return kitchen{}, api.ErrTwice
	}
	if len(sources) != len(g.Sources) || slices.ContainsFunc(g.Sources, k.lacks) {
		return kitchen{}, api.ErrMiss
	}
	if slices.ContainsFunc(sources, isWide) {
		return kitchen{}, api.ErrWide
	}
	k.bake()
	return k, api.OK
}

// lay: the sources that are handed in are there; false if two have one name.
func (k *kitchen) lay(sources ...api.Source) bool {
	for _, s := range sources {
		k.results[s.Name] = api.Result{Blob: s.Blob}
	}
	return len(k.results) == len(sources)
}

// lacks: whether a name has no result.
func (k *kitchen) lacks(name string) bool {
	_, ok := k.results[name]
	return !ok
}

// isWide: whether a source is no blob.
func isWide(s api.Source) bool { return len(s.Blob) > api.MaxBlob }

// bake: each action is made behind those on which it stands.
func (k *kitchen) bake() {
	for _, place := range trellis.Order(k.Graph) {
		a := k.Actions[place]
		k.results[a.Name] = Make(a.Code, k.inputs(a)...)
	}
}

// inputs: the results of what an action stands on, in order.
func (k *kitchen) inputs(a api.Action) []api.Result {
	var list []api.Result
	for _, name := range a.Inputs {
		list = append(list, k.results[name])
	}
	return list
}

// key: that of an action, once all are made; zero if an input of it failed.
func (k *kitchen) key(a api.Action) api.Digest {
	if k.results[a.Name].Code == api.ErrDep {
		return api.Digest{}
	}
	return Key(a.Code, k.inputs(a)...)
}
