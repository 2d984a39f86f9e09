package view

import (
	"fmt"
	"reflect"
	"slices"
	"strconv"
	"strings"
	"unsafe"

	"cloister/api"
)

// names: those of `a b c`.
func names(s string) []string { return strings.Fields(s) }

// pairs: those of `a b, c a`.
func pairs(s string) (out [][2]string) {
	for _, one := range strings.Split(s, ",") {
		if l := names(one); len(l) == 2 {
			out = append(out, [2]string{l[0], l[1]})
		}
	}
	return out
}

// lab: the label of `{a:b,c;b:}`.
func lab(s string) (l api.Label) {
	s = strings.Trim(s, "{}")
	if s == "" {
		return nil
	}
	for _, one := range strings.Split(s, ";") {
		owner, readers, _ := strings.Cut(one, ":")
		l = append(l, api.Policy{Owner: owner, Readers: names(strings.ReplaceAll(readers, ",", " "))})
	}
	return l
}

// events: those of `o 1 {a:}, ! 2 {}`, where ! is no channel. Labels have no blanks within.
func events(s string) (out []api.Event) {
	for _, one := range strings.Split(s, ", ") {
		l := names(one)
		if len(l) == 0 {
			continue
		}
		n, err := strconv.Atoi(l[1])
		if err != nil {
			panic(err)
		}
		e := api.Event{Chan: strings.TrimPrefix(l[0], "!"), N: n}
		if len(l) > 2 {
			e.L = lab(l[2])
		}
		out = append(out, e)
	}
	return out
}

// told: the text of which events makes l, if these have no labels; those that have some stand out.
func told(l []api.Event) string {
	var out []string
	for _, e := range l {
		name := e.Chan
		if name == "" {
			name = "!"
		}
		s := name + " " + strconv.Itoa(e.N)
		if len(e.L) > 0 {
			s += " labelled"
		}
		out = append(out, s)
	}
	return strings.Join(out, ", ")
}

// chans: channels named c0, c1 and so on with the labels of `{a:} {}`, every other one going out.
func chans(s string) (out []api.Chan) {
	for i, one := range names(s) {
		out = append(out, api.Chan{Name: "c" + strconv.Itoa(i), In: i%2 == 0, Type: api.Int, L: lab(one)})
	}
	return out
}

// lists: those of `1,2 - 3`, where - is a list of nothing.
func lists(s string) (out [][]int) {
	for _, one := range names(s) {
		var l []int
		for _, n := range strings.Split(strings.Trim(one, "-"), ",") {
			if k, err := strconv.Atoi(n); err == nil {
				l = append(l, k)
			}
		}
		out = append(out, l)
	}
	return out
}

// What the chapter says, by other means.

// reads: may who read what has l? By ways from pair to pair, as chapters 2 and 3 say it.
func reads(acts [][2]string, who string, l api.Label) bool {
	seen := []string{who}
	for i := 0; i < len(seen); i++ {
		for _, p := range acts {
			if p[0] == seen[i] && !slices.Contains(seen, p[1]) {
				seen = append(seen, p[1])
			}
		}
	}
	for _, p := range l {
		lets := false
		for _, c := range append([]string{p.Owner}, p.Readers...) {
			lets = lets || slices.Contains(seen, c)
		}
		if !lets {
			return false
		}
	}
	return true
}

// Made data.

type dice struct{ state uint64 }

func throw(i int) *dice { return &dice{uint64(i)*2862933555777941757 + 3037000493} }

// roll answers a number from 0 to below n.
func (d *dice) roll(n int) int {
	d.state ^= d.state << 13
	d.state ^= d.state >> 7
	d.state ^= d.state << 17
	return int(d.state >> 33 % uint64(n))
}

func (d *dice) one(l []string) string { return l[d.roll(len(l))] }

func (d *dice) acts(l []string) (out [][2]string) {
	for range d.roll(api.MaxActs + 1) {
		out = append(out, [2]string{d.one(l), d.one(l)})
	}
	return out
}

func (d *dice) label(l []string) (out api.Label) {
	for range d.roll(4) {
		p := api.Policy{Owner: d.one(l)}
		for range d.roll(4) {
			p.Readers = append(p.Readers, d.one(l))
		}
		out = append(out, p)
	}
	return out
}

func (d *dice) events(l []string, n int) (out []api.Event) {
	for range n {
		out = append(out, api.Event{Chan: d.one([]string{"", "o", "p"}), N: d.roll(5) - 2, L: d.label(l)})
	}
	return out
}

// What lies where.

// whole tells all of x, in which lists of nothing are alike.
func whole(x any) string { return fmt.Sprintf("%+v", x) }

// pieces shows where the lists and names of x lie.
func pieces(x reflect.Value, see func(at unsafe.Pointer, what string)) {
	switch x.Kind() {
	case reflect.String:
		if x.Len() > 0 {
			see(unsafe.Pointer(unsafe.StringData(x.String())), x.String())
		}
	case reflect.Interface:
		pieces(x.Elem(), see)
	case reflect.Struct:
		for i := range x.NumField() {
			pieces(x.Field(i), see)
		}
	case reflect.Array:
		for i := range x.Len() {
			pieces(x.Index(i), see)
		}
	case reflect.Slice:
		for i := range x.Len() {
			pieces(x.Index(i), see)
		}
		if x.Cap() > 0 {
			see(x.UnsafePointer(), fmt.Sprint(x.Type()))
		}
	}
}

// roomy answers x, with spare room behind each list of it, in which something stands.
func roomy(x reflect.Value) reflect.Value {
	out := reflect.New(x.Type()).Elem()
	switch x.Kind() {
	case reflect.Struct:
		for i := range x.NumField() {
			out.Field(i).Set(roomy(x.Field(i)))
		}
	case reflect.Slice:
		out = reflect.MakeSlice(x.Type(), x.Len()+1, x.Len()+1)
		for i := range x.Len() {
			out.Index(i).Set(roomy(x.Index(i)))
		}
		spoil(out.Index(x.Len()))
		out = out.Slice(0, x.Len())
	default:
		out.Set(x)
	}
	return out
}

// spoil changes all of x.
func spoil(x reflect.Value) {
	switch x.Kind() {
	case reflect.String:
		x.SetString("spoilt")
	case reflect.Int:
		x.SetInt(-7)
	case reflect.Struct:
		for i := range x.NumField() {
			spoil(x.Field(i))
		}
	case reflect.Array, reflect.Slice:
		for i := range x.Len() {
			spoil(x.Index(i))
		}
	}
}

// unfolded answers x, with the spare room behind each list as part of it.
func unfolded(x reflect.Value) reflect.Value {
	out := reflect.New(x.Type()).Elem()
	switch x.Kind() {
	case reflect.Struct:
		for i := range x.NumField() {
			out.Field(i).Set(unfolded(x.Field(i)))
		}
	case reflect.Slice:
		out = reflect.MakeSlice(x.Type(), x.Cap(), x.Cap())
		for i := range x.Cap() {
			out.Index(i).Set(unfolded(x.Slice(0, x.Cap()).Index(i)))
		}
	default:
		out.Set(x)
	}
	return out
}
