package check

import (
	"dowel/api"
	"strconv"
	"strings"
	"testing"
)

// named is the sample with so many imports and commands, each with a name of its own. References to imports stay right.
func named(imports, cmds int) api.Object {
	o := sample()
	for i := len(o.Imports); i < imports; i++ {
		o.Imports = append(o.Imports, api.Import{Name: "import" + strconv.Itoa(i), Key: 9})
	}
	o.Cmds = nil
	for i := range cmds {
		o.Cmds = append(o.Cmds, api.Entry{Name: "cmd" + strconv.Itoa(i), At: i % 16})
	}
	return o
}

// setters set one name of an object: its own, one of its imports', one of its commands'.
func setters(o api.Object) []func(o *api.Object, s string) {
	l := []func(o *api.Object, s string){func(o *api.Object, s string) { o.Name = s }}
	for i := range o.Imports {
		l = append(l, func(o *api.Object, s string) { o.Imports[i].Name = s })
	}
	for i := range o.Cmds {
		l = append(l, func(o *api.Object, s string) { o.Cmds[i].Name = s })
	}
	return l
}

// checkNames sets each name to that text.
func checkNames(t *testing.T, s string, may bool) {
	t.Helper()
	for _, count := range [][2]int{{2, 1}, {5, 3}, {8, 8}} {
		for _, set := range setters(named(count[0], count[1])) {
			o := named(count[0], count[1])
			set(&o, s)
			checkOne(t, o, may, 1)
		}
	}
	o := bare()
	o.Name = s
	checkOne(t, o, may, 1)
	o = bare()
	o.Cmds = []api.Entry{{Name: s}}
	checkOne(t, o, may, 1)
}

func TestP14_1Names(t *testing.T) {
	for _, s := range []string{"x", "Z", "a0", "C9", "B2B2", "abcdefghijklmnop", "Z234567890123456", "lIST", "LIST", "Li", "Lists", "cmd", "import"} {
		checkNames(t, s, true)
	}
	for length := 1; length <= 40; length++ {
		checkNames(t, "q"+strings.Repeat("7", length-1), length <= 16)
	}
}

func TestP14_1WhatIsNoName(t *testing.T) {
	for _, s := range []string{
		"", "2", "2B", "_", "_a", "a_", "-a", "a-b", "a b", " a", "a ", "a.b", "a\x00", "\x00a", "a\n", "\n", "é", "aé", "\xff", "a\xc3", "Ａ", "a２", "@a", "[a", "`a", "{a", "a/", "a:",
		"abcdefghijklmnopq", "Z2345678901234567", strings.Repeat("a", 256), strings.Repeat("a", 257), strings.Repeat("a", 1<<16), strings.Repeat("a", 1<<16+1),
	} {
		checkNames(t, s, false)
	}
}

func TestP14_1EachSignOfAName(t *testing.T) {
	for c := range 256 {
		letter := isAmong(c, 'a', 'z') || isAmong(c, 'A', 'Z')
		for _, set := range setters(named(3, 2)) {
			o := named(3, 2)
			set(&o, string([]byte{byte(c)})+"x")
			checkOne(t, o, letter, 1)
			set(&o, "x"+string([]byte{byte(c)}))
			checkOne(t, o, letter || isAmong(c, '0', '9'), 1)
		}
	}
}

func TestP14_1HowManyImportsAndCommands(t *testing.T) {
	for imports := 2; imports <= 20; imports++ {
		for cmds := range 20 {
			if imports > 8 || cmds > 8 {
				checkBreaks(t, named(imports, cmds), 1)
			} else {
				checkMay(t, named(imports, cmds))
			}
		}
	}
	for count := range 300 {
		o := bare()
		for i := range count {
			o.Imports = append(o.Imports, api.Import{Name: "i" + strconv.Itoa(i)})
		}
		checkOne(t, o, count <= 8, 1)
		o = bare()
		for i := range count {
			o.Cmds = append(o.Cmds, api.Entry{Name: "i" + strconv.Itoa(i)})
		}
		checkOne(t, o, count <= 8, 1)
	}
}

// pairs calls do with each two places of a list of so many.
func pairs(count int, do func(i, j int)) {
	for i := range count {
		for j := i + 1; j < count; j++ {
			do(i, j)
		}
	}
}

func TestP14_1TwoImportsOfOneName(t *testing.T) {
	for count := 2; count <= 8; count++ {
		pairs(count, func(i, j int) {
			o := named(count, 3)
			o.Imports[j].Name = o.Imports[i].Name
			checkBreaks(t, o, 1)
			o.Imports[j].Key = o.Imports[i].Key
			checkBreaks(t, o, 1)
			o.Imports[j] = api.Import{Name: o.Imports[i].Name + "x", Key: o.Imports[i].Key}
			checkMay(t, o)
			o.Imports[i].Name, o.Imports[j].Name = "Name", "name"
			checkMay(t, o)
		})
	}
}

func TestP14_1TwoCommandsOfOneName(t *testing.T) {
	for count := 2; count <= 8; count++ {
		pairs(count, func(i, j int) {
			o := named(2, count)
			o.Cmds[j].Name = o.Cmds[i].Name
			checkBreaks(t, o, 1)
			o.Cmds[j].At = o.Cmds[i].At
			checkBreaks(t, o, 1)
			o.Cmds[j] = api.Entry{Name: o.Cmds[i].Name + "x", At: o.Cmds[i].At}
			checkMay(t, o)
			o.Cmds[i].Name, o.Cmds[j].Name = "Name", "name"
			checkMay(t, o)
		})
	}
}

func TestP14_1AnImportOfTheOwnName(t *testing.T) {
	for count := 2; count <= 8; count++ {
		for i := range count {
			o := named(count, 3)
			o.Imports[i].Name = o.Name
			checkBreaks(t, o, 1)
			o.Imports[i].Key = o.Key
			checkBreaks(t, o, 1)
			o.Imports[i].Name = strings.ToLower(o.Name)
			checkMay(t, o)
			o.Name = o.Imports[i].Name
			checkBreaks(t, o, 1)
		}
	}
	o := bare()
	o.Imports = []api.Import{{Name: "M"}}
	checkBreaks(t, o, 1)
}

func TestP14_1CommandsMayHaveModulesNames(t *testing.T) {
	for count := 1; count <= 8; count++ {
		for i := range count {
			o := named(8, count)
			o.Cmds[i].Name = o.Name
			checkMay(t, o)
			for _, m := range o.Imports {
				o.Cmds[i].Name = m.Name
				checkMay(t, o)
			}
		}
	}
	o := named(8, 8)
	for i, m := range o.Imports {
		o.Cmds[i].Name = m.Name
	}
	checkMay(t, o)
}
