package drv_test

import (
	"maps"
	"reflect"
	"sync"
	"testing"

	"pantry/api"
	"pantry/drv"
)

// roomy is d with room behind the ends of its lists, in which something stands.
func roomy(d api.Drv) api.Drv {
	d = copied(d)
	d.Args = append(d.Args, "behind")[:len(d.Args)]
	d.Env = append(d.Env, api.Var{Name: "behind"})[:len(d.Env)]
	d.Sources = append(d.Sources, "behind")[:len(d.Sources)]
	d.Outputs = append(d.Outputs, api.Output{Name: "behind"})[:len(d.Outputs)]
	for i, in := range d.Inputs {
		d.Inputs[i].Outs = append(in.Outs, "behind")[:len(in.Outs)]
	}
	d.Inputs = append(d.Inputs, api.Input{Drv: "behind"})[:len(d.Inputs)]
	return d
}

// withRoom is d with its lists up to one behind their ends.
func withRoom(d api.Drv) api.Drv {
	d = copied(api.Drv{Name: d.Name, System: d.System, Builder: d.Builder,
		Args: d.Args[:len(d.Args)+1], Env: d.Env[:len(d.Env)+1], Inputs: d.Inputs[:len(d.Inputs)+1], Sources: d.Sources[:len(d.Sources)+1], Outputs: d.Outputs[:len(d.Outputs)+1]})
	for i, in := range d.Inputs[:len(d.Inputs)-1] {
		d.Inputs[i].Outs = in.Outs[:len(in.Outs):len(in.Outs)]
	}
	return d
}

// called calls all that there is.
func called(d api.Drv, inputs map[api.Path]api.Hash) {
	drv.Check(d)
	drv.Print(d)
	drv.Modulo(d, inputs)
	drv.Fill(d, inputs)
	drv.Path(d)
	drv.Refs(d)
}

// P14.6, W6: what is handed in stays, with the room behind the ends of its lists.
func TestHandedInStays(t *testing.T) {
	for _, f := range append(faults(), fault{"none", func(*api.Drv) {}, api.OK}, fault{"fixed", func(d *api.Drv) { *d = fixed() }, api.OK}) {
		d := rich()
		f.turn(&d)
		d = roomy(d)
		want := withRoom(d)
		inputs := digests(d)
		delete(inputs, "")
		before := maps.Clone(inputs)
		called(d, inputs)
		if !reflect.DeepEqual(withRoom(d), want) || !maps.Equal(inputs, before) {
			t.Errorf("%s: what was handed in is %v", f.name, withRoom(d))
		}
		for i, in := range d.Inputs {
			if len(in.Outs) > 0 && in.Outs[:len(in.Outs)+1][len(in.Outs)] != "behind" {
				t.Errorf("%s: behind the outs of %d stands %v", f.name, i, in.Outs[:len(in.Outs)+1])
			}
		}
	}
}

// P14.6, W6: texts that are handed in are not kept, nor are lists.
func TestHandedInIsNotKept(t *testing.T) {
	for _, d := range []api.Drv{rich(), fixed()} {
		want, e := filledOf(d, digests(d))
		ok(t, e)
		s, b := borrowed(textOf(want))
		x, e := drv.Parse(s)
		ok(t, e)
		clear(b)
		if !alike(x, want) {
			t.Errorf("parsed %v", x)
		}
		lent, all := lend(d)
		inputs := digests(d)
		filled, e := drv.Fill(lent, inputs)
		ok(t, e)
		refs := drv.Refs(lent)
		printed, e := drv.Print(lent)
		ok(t, e)
		p, e := drv.Path(lent)
		ok(t, e)
		own, e := drv.Path(d)
		ok(t, e)
		for _, b := range all {
			clear(b)
		}
		for i := range lent.Inputs {
			clear(lent.Inputs[i].Outs)
		}
		clear(lent.Inputs)
		clear(lent.Outputs)
		clear(lent.Sources)
		clear(lent.Env)
		clear(lent.Args)
		clear(inputs)
		if !alike(filled, want) || !reflect.DeepEqual(refs, refsOf(d)) || printed != textOf(d) || p != own {
			t.Errorf("what was answered is %v, %v, %q, %q", filled, refs, printed, p)
		}
	}
}

// lend is d over bytes that may be changed.
func lend(d api.Drv) (api.Drv, [][]byte) {
	var all [][]byte
	lent := func(s string) string {
		s, b := borrowed(s)
		all = append(all, b)
		return s
	}
	d = copied(d)
	d.Name, d.System, d.Builder = lent(d.Name), lent(d.System), lent(d.Builder)
	for i := range d.Args {
		d.Args[i] = lent(d.Args[i])
	}
	for i := range d.Env {
		d.Env[i] = api.Var{Name: lent(d.Env[i].Name), Value: lent(d.Env[i].Value)}
	}
	for i := range d.Sources {
		d.Sources[i] = api.Path(lent(string(d.Sources[i])))
	}
	for i := range d.Outputs {
		d.Outputs[i].Name, d.Outputs[i].Path = lent(d.Outputs[i].Name), api.Path(lent(string(d.Outputs[i].Path)))
	}
	for i := range d.Inputs {
		d.Inputs[i].Drv = api.Path(lent(string(d.Inputs[i].Drv)))
		for n := range d.Inputs[i].Outs {
			d.Inputs[i].Outs[n] = lent(d.Inputs[i].Outs[n])
		}
	}
	return d, all
}

// P14.6, W6: what is answered is new memory each time, in each of its lists and texts.
func TestAnswersAreNewMemory(t *testing.T) {
	for _, d := range []api.Drv{rich(), fixed()} {
		// Texts that are written out in a program may be one; so they are handed in as copies.
		d, _ = lend(d)
		inputs := digests(d)
		text := textOf(d)
		all := append(spansOfDrv(d), spansOf(text)...)
		for range 2 {
			s, e := drv.Print(d)
			ok(t, e)
			x, e := drv.Parse(text)
			ok(t, e)
			filled, e := drv.Fill(d, inputs)
			ok(t, e)
			p, e := drv.Path(d)
			ok(t, e)
			refs := drv.Refs(d)
			all = append(all, spansOf(s, string(p))...)
			all = append(all, spansOfDrv(x)...)
			all = append(all, spansOfDrv(filled)...)
			all = append(all, spanOf(refs))
			all = append(all, spansOf(refs...)...)
		}
		if meet(all) {
			t.Errorf("answers of %s share memory", d.Name)
		}
	}
}

// W2: many at one time answer the same.
func TestBesideOneAnother(t *testing.T) {
	d := rich()
	inputs := digests(d)
	want, _ := filledOf(d, inputs)
	var all sync.WaitGroup
	for range 8 {
		all.Go(func() {
			for range 50 {
				called(d, inputs)
				x, _ := drv.Fill(d, inputs)
				back, _ := drv.Parse(textOf(x))
				if !alike(x, want) || !alike(back, want) {
					t.Errorf("filled %v, parsed %v", x, back)
				}
			}
		})
	}
	all.Wait()
}
