package data_test

import (
	"fmt"
	"reflect"
	"testing"

	"trustquorum/api"
	"trustquorum/data"
)

func same[T comparable](t *testing.T, name string, got, want T) {
	t.Helper()
	if got != want {
		t.Errorf("%s: got %v, want %v", name, got, want)
	}
}

// fill gives all fields of a value something, and lists two elements, down to a depth.
func fill(v reflect.Value, depth int) {
	switch v.Kind() {
	case reflect.Int:
		v.SetInt(7)
	case reflect.Uint64:
		v.SetUint(7)
	case reflect.Bool:
		v.SetBool(true)
	case reflect.String:
		v.SetString("x")
	case reflect.Struct:
		for i := range v.NumField() {
			fill(v.Field(i), depth)
		}
	case reflect.Slice:
		if depth > 0 {
			v.Set(reflect.MakeSlice(v.Type(), 2, 2))
			fill(v.Index(0), depth-1)
			fill(v.Index(1), depth-1)
		}
	}
}

// change changes each part of a value, one after the other, and calls f while it is changed.
func change(v reflect.Value, path string, f func(path string)) {
	old := reflect.New(v.Type()).Elem()
	old.Set(v)
	switch v.Kind() {
	case reflect.Int:
		v.SetInt(8)
	case reflect.Uint64:
		v.SetUint(8)
	case reflect.Bool:
		v.SetBool(false)
	case reflect.String:
		v.SetString("y")
	case reflect.Struct:
		for i := range v.NumField() {
			change(v.Field(i), path+"."+v.Type().Field(i).Name, f)
		}
		return
	case reflect.Slice:
		for i := range v.Len() {
			change(v.Index(i), fmt.Sprint(path, "[", i, "]"), f)
		}
		if v.Len() == 0 {
			return
		}
		v.Set(v.Slice(0, v.Len()-1))
	}
	f(path)
	v.Set(old)
}

// copies checks that a copy is equal and shares no memory.
func copies[T any](t *testing.T, one func(T) T) {
	t.Helper()
	var x T
	fill(reflect.ValueOf(&x).Elem(), 4)
	c := one(x)
	before := fmt.Sprint(x)
	same(t, "equal", fmt.Sprint(c), before)
	n := 0
	change(reflect.ValueOf(&c).Elem(), "", func(path string) {
		n++
		same(t, path, fmt.Sprint(x), before)
		same(t, path, fmt.Sprint(c) != before, true)
	})
	same(t, "some parts", n > 0, true)
	var zero T
	same(t, "zero", reflect.DeepEqual(one(zero), zero), true)
}

func TestCopies(t *testing.T) {
	copies(t, data.Trust)
	copies(t, data.Member)
	copies(t, data.Config)
	copies(t, data.Declaration)
	copies(t, data.Registry)
	copies(t, data.Message)
	copies(t, data.Voter)
	copies(t, data.Meeting)
	copies(t, data.Nomination)
	copies(t, data.Nominator)
	copies(t, data.Envelope)
	copies(t, data.Machine)
	copies(t, data.Slot)
	copies(t, data.Letter)
	copies(t, data.Participant)
	copies(t, data.Parcel)
	copies(t, data.Network)
	copies(t, data.World)
	copies(t, data.Ledger)
	copies(t, data.Op)
	copies(t, data.Tx)
	copies(t, data.Archive)
}

// compares checks that two values are equal exactly if all of their parts are.
func compares[T any](t *testing.T, equal func(a, b T) bool) {
	t.Helper()
	var x, y T
	fill(reflect.ValueOf(&x).Elem(), 3)
	fill(reflect.ValueOf(&y).Elem(), 3)
	same(t, "equal", equal(x, y), true)
	change(reflect.ValueOf(&y).Elem(), "", func(path string) {
		same(t, path, equal(x, y), false)
		same(t, path, equal(y, x), false)
	})
	var zero T
	same(t, "zero", equal(zero, zero), true)
	same(t, "zero", equal(zero, x), false)
}

func TestCompares(t *testing.T) {
	compares(t, data.SameTrust)
	compares(t, data.SameMessage)
	compares(t, data.SameNomination)
	compares(t, data.SameEnvelope)
	compares(t, data.SameLetter)
	compares(t, data.SameStep)
	compares(t, data.SameOp)
	same(t, "nil and empty", data.SameTrust(api.Trust{}, api.Trust{Nodes: []int{}, Inner: []api.Trust{}}), true)
}

func TestLists(t *testing.T) {
	same(t, "List", fmt.Sprint(data.List([]int{1, 2}, func(n int) string { return fmt.Sprint("n", n) })), "[n1 n2]")
	same(t, "List", data.List(nil, data.Trust) == nil, true)
	same(t, "Flat", fmt.Sprint(data.Flat([]int{3, 1})), "[3 1]")
	same(t, "Flat", data.Flat[int](nil) == nil, true)
}
