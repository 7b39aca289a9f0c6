package drv_test

import (
	"fmt"
	"strings"
	"testing"

	"pantry/api"
	"pantry/drv"
)

// P14.2: texts that are written out here.
func TestTexts(t *testing.T) {
	prints(t, plain(), `Derive("x",[("out","","","")],[],[],"s","b",[],[])`)
	one, two := strings.Repeat("1", 32), strings.Repeat("2", 32)
	prints(t, rich(), `Derive("rich-1.0",[("dev","`+string(named("was-dev"))+`","",""),("out","","","")],`+
		`[("`+one+`-a.drv",["bin","dev"]),("`+two+`-b.drv",["out","z"])],`+
		`["`+strings.Repeat("0", 32)+`-s","`+strings.Repeat("3", 32)+`-t"],"lean \"8\"","/bin\\sh",["-c","","make\tall\n","-c"],`+
		`[("CC","c\r"),("dev","old"),("flags",""),("out","old too")])`)
	d := plain()
	d.Outputs[0] = api.Output{Name: "out", Path: named("x"), Fixed: true, Hash: api.Hash{0: 0x01, 15: 0xAB, 31: 0xf0}}
	prints(t, d, `Derive("x",[("out","`+string(named("x"))+`","sha256","01`+strings.Repeat("0", 28)+"ab"+strings.Repeat("0", 30)+`f0")],[],[],"s","b",[],[])`)
	d.Outputs[0] = api.Output{Name: "out", Fixed: true}
	prints(t, d, `Derive("x",[("out","","sha256","`+strings.Repeat("0", 64)+`")],[],[],"s","b",[],[])`)
}

// P14.2: each byte, wherever any bytes may stand.
func TestEachByte(t *testing.T) {
	for _, turn := range []func(d *api.Drv, s string){
		func(d *api.Drv, s string) { d.System = s },
		func(d *api.Drv, s string) { d.Builder = s },
		func(d *api.Drv, s string) { d.Args = []string{s} },
		func(d *api.Drv, s string) { d.Args = []string{"a", s, s, "b"} },
		func(d *api.Drv, s string) { d.Env = []api.Var{{Name: s, Value: "v"}} },
		func(d *api.Drv, s string) { d.Env = []api.Var{{Name: "a", Value: s}, {Name: "b", Value: s}} },
	} {
		texts := []string{string(allBytes()), strings.Repeat("\\", 9), strings.Repeat("\"", 8), "\\n\\r\\t\\\"", "é\u20ac\U0001f600"}
		for c := range 256 {
			texts = append(texts, string([]byte{byte(c)}), string([]byte{byte(c), 'x'}), string([]byte{'x', byte(c)}), string([]byte{'\\', byte(c)}), string([]byte{byte(c), byte(c)}))
		}
		for _, s := range texts {
			d := plain()
			turn(&d, s)
			prints(t, d, textOf(d))
		}
	}
}

// P14.2: a text that is cut at any byte, or has some more behind its end or ahead of it, is none.
func TestCuts(t *testing.T) {
	for name, d := range goods() {
		s := textOf(d)
		for i := range s {
			isNone(t, s[:i])
			if i > 0 {
				isNone(t, s[i:])
			}
		}
		for c := range 256 {
			isNone(t, s+string([]byte{byte(c)}))
			isNone(t, string([]byte{byte(c)})+s)
		}
		isNone(t, s+s)
		if _, e := drv.Parse(s); e != api.OK {
			t.Errorf("%s: error %d", name, e)
		}
	}
}

// P14.2: texts that are nearly some.
func TestWrongTexts(t *testing.T) {
	d := fixed()
	d.Outputs[0].Path, d.Outputs[0].Hash = named("x"), api.Hash{0xab, 0xcd}
	s := textOf(d)
	hex := "abcd" + strings.Repeat("0", 60)
	for _, x := range [][2]string{
		{"Derive(", "derive("}, {"Derive(", "Derive ("}, {"Derive(", " Derive("}, {"Derive(", "Derive["},
		{",", ", "}, {"[", "[ "}, {"]", " ]"}, {"(\"", "( \""}, {"\")", "\" )"}, {",\"", ",\n\""},
		{"sha256", "md5"}, {"sha256", "SHA256"}, {"sha256", "sha256:"}, {"sha256", "sha25"}, {"sha256", ""}, {"sha256", "r:sha256"},
		{hex, ""}, {hex, hex[1:]}, {hex, hex + "0"}, {hex, "ABcd" + hex[4:]}, {hex, "abcD" + hex[4:]}, {hex, hex[:63] + "g"}, {hex, hex[:63] + " "},
		{`\n`, "\n"}, {`\t`, "\t"}, {`\r`, "\r"}, {`\"`, `"`}, {`\\`, `\`}, {`\n`, `\N`}, {`\n`, `\x`}, {`\n`, `\0`}, {`\t`, `\v`}, {`\t`, `\012`},
		{"-c", `\-c`}, {"-c", `-\c`}, {"rich", `\rich`}, {"rich", `ri\ch`}, {"rich", "ri\"ch"}, {"rich", "'rich'"}, {`"rich-1.0"`, "rich-1.0"}, {`"rich-1.0"`, ""},
		{`"-c",`, `"-c",,`}, {`"-c",`, `,"-c",`}, {`"-c"]`, `"-c",]`}, {`["-c"`, `[,"-c"`}, {`["-c"`, `"-c"`}, {`"-c"]`, `"-c"`}, {`"-c"]`, `"-c")`}, {`["-c"`, `("-c"`},
		{`("CC","c\r")`, `("CC","c\r","")`}, {`("CC","c\r")`, `("CC")`}, {`("CC","c\r")`, `["CC","c\r"]`}, {`("CC","c\r")`, `"CC","c\r"`}, {`("CC","c\r")`, `()`}, {`("CC","c\r")`, ``},
		{`("CC",`, `("",`}, {`("CC",`, `("dev",`}, {`("CC",`, `("z",`},
		{`["bin","dev"]`, `[]`}, {`["bin","dev"]`, `["dev","bin"]`}, {`["bin","dev"]`, `["bin","bin"]`}, {`["bin","dev"]`, `"bin"`}, {`["bin","dev"]`, `["bin",""]`}, {`,["bin","dev"]`, ``},
		{"-a.drv", "-a.dr"}, {"-a.drv", "-.drv"}, {"-b.drv", "/b.drv"}, {strings.Repeat("2", 32), strings.Repeat("0", 32)}, {strings.Repeat("2", 32), strings.Repeat("e", 32)},
		{strings.Repeat("3", 32), strings.Repeat("0", 32) + "-a"}, {`("out",`, `("ou",`}, {`("out",`, `("",`}, {`[("out",`, `[("out","","",""),("out",`}, {`[("out",`, `[("a","","",""),("out",`},
		{string(named("x")), "x"}, {string(named("x")), " "}, {s[len("Derive("):], ")"}, {s, ""}, {s, `Derive()`}, {s, `Derive("x")`}, {s, `Derive("x",[],[],[],"s","b",[],[])`},
		{s, `Derive("x",[("out","","","")],[],[],"s","b",[])`}, {s, `Derive("x",[("out","","","")],[],[],"s","b",[],[],[])`}, {s, `Derive("x",[("out","","","")],[],[],"s",[],[])`},
		{s, `Derive("x",[("out","","","")],[],[],"s","b","c",[],[])`}, {s, `Derive("x",[("out","","")],[],[],"s","b",[],[])`}, {s, `Derive("x",[("out","","","","")],[],[],"s","b",[],[])`},
		{s, `Derive([("out","","","")],[],[],"s","b",[],[])`}, {s, `Derive("x",[("out","","","` + strings.Repeat("0", 64) + `")],[],[],"s","b",[],[])`}, {s, `Derive("x",[("out","","sha256","")],[],[],"s","b",[],[])`},
		{s, "Derive(\"x\\\x00,[(\"out\",\"\",\"\",\"\")],[],[],\"s\",\"b\",[],[])"}, {s, "Derive(\"x\",[(\"out\",\"\",\"\",\"\")],[],[],\"\\\x00\",\"b\",[],[])"}, {s, `"`}, {s, `\`}, {s, `Derive("`}, {s, `Derive("\`}, {s, `Derive("x",[("out","","","")],[],[],"\`},
	} {
		bad := strings.Replace(s, x[0], x[1], 1)
		if bad == s {
			t.Errorf("%q does not stand there", x[0])
			continue
		}
		isNone(t, bad)
	}
}

// holds holds Parse and Print against one another: what Parse takes as a text is the text of what it answers.
func holds(t *testing.T, s string) {
	t.Helper()
	d, e := drv.Parse(s)
	if e != api.OK {
		isNone(t, s)
		return
	}
	if back, e := drv.Print(d); e != api.OK || back != s || textOf(d) != s {
		t.Fatalf("%q is printed as %q, error %d", s, back, e)
	}
}

// P14.6: Print of Parse is the text, with each byte changed to others, taken away, or with another one ahead.
func TestChangedTexts(t *testing.T) {
	steps := 4
	if testing.Short() {
		steps = 32
	}
	for _, d := range []api.Drv{rich(), fixed()} {
		s := []byte(textOf(d))
		for i := range s {
			old := s[i]
			for c := range 256 {
				if c%steps != i%steps {
					continue
				}
				s[i] = byte(c)
				holds(t, string(s))
				s[i] = old
				holds(t, string(s[:i])+string([]byte{byte(c)})+string(s[i:]))
			}
			holds(t, string(s[:i])+string(s[i+1:]))
		}
	}
}

// P14.6: derivations at random and their texts, and pieces of texts put together at random.
func TestRandomTexts(t *testing.T) {
	r := dice()
	for range rounds(10000) {
		d := random(r)
		s := textOf(d)
		prints(t, d, s)
		from, to := r.IntN(len(s)+1), r.IntN(len(s)+1)
		holds(t, s[:from]+s[to:])
		other := textOf(random(r))
		holds(t, s[:from]+other[min(to, len(other)):])
		holds(t, strings.Replace(s, `""`, fmt.Sprintf(`"%s"`, other[:min(from, len(other), 9)]), 1+r.IntN(3)))
	}
}
