package drv

import (
	"slices"
	"strings"

	"pantry/api"
	"pantry/digest"
)

// clone is a derivation like d that shares no memory with it.
func clone(d api.Drv) api.Drv {
	return api.Drv{
		Name:    cloneText(d.Name),
		System:  cloneText(d.System),
		Builder: cloneText(d.Builder),
		Args:    each(d.Args, cloneText),
		Env:     each(d.Env, cloneVar),
		Inputs:  each(d.Inputs, cloneInput),
		Sources: each(d.Sources, cloneText),
		Outputs: each(d.Outputs, cloneOutput),
	}
}

// masked is d without what its outputs' paths hang on; ErrRef, if the digest of an input is not there.
func masked(d api.Drv, inputs map[api.Path]api.Hash) (api.Drv, api.Errno) {
	bare := d
	bare.Outputs, bare.Env, bare.Inputs = slices.Clone(d.Outputs), slices.Clone(d.Env), slices.Clone(d.Inputs)
	for i := range bare.Outputs {
		bare.Outputs[i].Path = ""
	}
	nameValues(bare)
	for i, in := range d.Inputs {
		h, ok := inputs[in.Drv]
		if !ok {
			return api.Drv{}, api.ErrRef
		}
		bare.Inputs[i].Drv = api.Path(digest.Hex(h))
	}
	return bare, api.OK
}

// each is a list of what do makes of l's members; nil, if it has none.
func each[T any](l []T, do func(T) T) []T {
	var made []T
	for _, x := range l {
		made = append(made, do(x))
	}
	return made
}

func cloneText[T ~string](s T) T { return T(strings.Clone(string(s))) }

func cloneVar(v api.Var) api.Var {
	return api.Var{Name: cloneText(v.Name), Value: cloneText(v.Value)}
}

func cloneInput(in api.Input) api.Input {
	return api.Input{Drv: cloneText(in.Drv), Outs: each(in.Outs, cloneText)}
}

func cloneOutput(out api.Output) api.Output {
	out.Name, out.Path = cloneText(out.Name), cloneText(out.Path)
	return out
}
