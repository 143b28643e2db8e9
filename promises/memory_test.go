package promises

import "reflect"

// room is the memory of a list, from one address on up to another one.
type room struct{ from, to uintptr }

func (r room) meets(other room) bool { return r.from < other.to && other.from < r.to }

// rooms of all lists in a thing, the spare room too.
func rooms(v reflect.Value) []room {
	var l []room
	switch v.Kind() {
	case reflect.Slice:
		from := v.Pointer()
		l = append(l, room{from, from + uintptr(v.Cap())*v.Type().Elem().Size()})
		for i := range v.Len() {
			l = append(l, rooms(v.Index(i))...)
		}
	case reflect.Struct:
		for i := range v.NumField() {
			l = append(l, rooms(v.Field(i))...)
		}
	}
	return l
}

// roomy copies a thing, with more behind each of its lists.
func roomy(v reflect.Value) reflect.Value {
	return copied(v, asItIs, func(l reflect.Value) reflect.Value {
		for range 3 {
			l = reflect.Append(l, junk(l.Type().Elem()))
		}
		return l.Slice(0, l.Len()-3)
	})
}

// whole copies a thing, with what is behind its lists as more elements.
func whole(v reflect.Value) reflect.Value {
	return copied(v, func(l reflect.Value) reflect.Value { return l.Slice(0, l.Cap()) }, asItIs)
}

// bare copies a thing; lists without elements are nil, as they may come out either way.
func bare(v reflect.Value) reflect.Value {
	return copied(v, asItIs, func(l reflect.Value) reflect.Value {
		if l.Len() == 0 {
			return reflect.Zero(l.Type())
		}
		return l
	})
}

func asItIs(v reflect.Value) reflect.Value { return v }

// copied is a thing made anew: each list as view shows it, and its copy as finish makes it.
func copied(v reflect.Value, view, finish func(reflect.Value) reflect.Value) reflect.Value {
	switch v.Kind() {
	case reflect.Slice:
		v = view(v)
		l := reflect.MakeSlice(v.Type(), v.Len(), v.Len())
		for i := range v.Len() {
			l.Index(i).Set(copied(v.Index(i), view, finish))
		}
		return finish(l)
	case reflect.Struct:
		s := reflect.New(v.Type()).Elem()
		for i := range v.NumField() {
			s.Field(i).Set(copied(v.Field(i), view, finish))
		}
		return s
	}
	return v
}

// junk is something that no right thing has.
func junk(t reflect.Type) reflect.Value {
	v := reflect.New(t).Elem()
	switch t.Kind() {
	case reflect.Int:
		v.SetInt(7777)
	case reflect.Bool:
		v.SetBool(true)
	case reflect.Slice:
		v.Set(reflect.Append(v, junk(t.Elem())))
	case reflect.Struct:
		for i := range v.NumField() {
			v.Field(i).Set(junk(t.Field(i).Type))
		}
	}
	return v
}

// spoil changes all memory of the lists in a thing.
func spoil(v reflect.Value) {
	switch v.Kind() {
	case reflect.Slice:
		v = v.Slice(0, v.Cap())
		for i := range v.Len() {
			spoil(v.Index(i))
			v.Index(i).Set(junk(v.Type().Elem()))
		}
	case reflect.Struct:
		for i := range v.NumField() {
			spoil(v.Field(i))
		}
	}
}

func each(f func(reflect.Value) reflect.Value, l []reflect.Value) []reflect.Value {
	var made []reflect.Value
	for _, v := range l {
		made = append(made, f(v))
	}
	return made
}

func same(a, b []reflect.Value) bool {
	for i := range a {
		if !reflect.DeepEqual(a[i].Interface(), b[i].Interface()) {
			return false
		}
	}
	return len(a) == len(b)
}
