package drv

import (
	"strings"

	"pantry/api"
	"pantry/path"
)

// checkOutputs tells whether outputs are a derivation's, as many as they are.
func checkOutputs(outs []api.Output) api.Errno {
	for i, out := range outs {
		if !path.IsName(out.Name) {
			return api.ErrName
		}
		if i > 0 && out.Name <= outs[i-1].Name {
			return api.ErrForm
		}
		if out.Path != "" && !isPath(out.Path) {
			return api.ErrForm
		}
		if out.Fixed && (len(outs) > 1 || out.Name != fixedOut) {
			return api.ErrForm
		}
		if !out.Fixed && out.Hash != (api.Hash{}) {
			return api.ErrForm
		}
	}
	return api.OK
}

// checkInputs tells whether inputs are a derivation's.
func checkInputs(inputs []api.Input) api.Errno {
	for i, in := range inputs {
		if !isDrvPath(in.Drv) || i > 0 && in.Drv <= inputs[i-1].Drv || len(in.Outs) == 0 {
			return api.ErrForm
		}
		if e := checkOuts(in.Outs); e != api.OK {
			return e
		}
	}
	return api.OK
}

// checkOuts tells whether texts are names of outputs, and rise.
func checkOuts(outs []string) api.Errno {
	for i, out := range outs {
		if !path.IsName(out) {
			return api.ErrName
		}
		if i > 0 && out <= outs[i-1] {
			return api.ErrForm
		}
	}
	return api.OK
}

// areSources tells whether all are paths, and rise.
func areSources(sources []api.Path) bool {
	for i, p := range sources {
		if !isPath(p) || i > 0 && p <= sources[i-1] {
			return false
		}
	}
	return true
}

// areVars tells whether all have a name, and rise.
func areVars(env []api.Var) bool {
	for i, v := range env {
		if v.Name == "" || i > 0 && v.Name <= env[i-1].Name {
			return false
		}
	}
	return true
}

// isPath tells whether p is a store path.
func isPath(p api.Path) bool {
	_, _, e := path.Split(p)
	return e == api.OK
}

// isDrvPath tells whether p is the path of a derivation, by its name.
func isDrvPath(p api.Path) bool { return strings.HasSuffix(string(p), suffix) && isPath(p) }
