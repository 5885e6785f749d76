// Package whole asks what the document promises of all layers: T0 so far.
package whole

import (
	"math"
	"math/rand/v2"
	"reflect"
	"testing"

	"empennage/api"
	"empennage/bound"
	"empennage/bucket"
	"empennage/cell"
	"empennage/config"
	"empennage/fabric"
	"empennage/four"
	"empennage/gate"
	"empennage/health"
	"empennage/lane"
	"empennage/mode"
	"empennage/pool"
	"empennage/queue"
	"empennage/ring"
	"empennage/router"
	"empennage/sample"
	"empennage/sat"
	"empennage/shell"
	"empennage/table"
	"empennage/trace"
	"empennage/triple"
	"empennage/wheel"
	"empennage/window"
	"empennage/wire"
)

// functions are all that the chapters list beside the methods.
func functions() map[string]any {
	return map[string]any{
		"sat.Cut": sat.Cut, "sat.Add": sat.Add, "sat.Sub": sat.Sub, "sat.Mul": sat.Mul, "sat.Age": sat.Age,
		"sat.Late": sat.Late, "sat.Phase": sat.Phase, "sat.Round": sat.Round, "sat.Next": sat.Next,
		"cell.Why": cell.Why,
		"wire.Put": wire.Put, "wire.Sum": wire.Sum, "wire.Seal": wire.Seal, "wire.Open": wire.Open,
		"config.Check": config.Check, "config.Right": config.Right, "config.Path": config.Path,
		"config.Into": config.Into, "config.Same": config.Same, "config.Clone": config.Clone,
		"table.Encode": table.Encode, "table.Decode": table.Decode, "table.Size": table.Size, "table.Count": table.Count,
		"lane.Same": lane.Same, "lane.Clone": lane.Clone,
		"bucket.Most":  bucket.Most,
		"gate.Judge":   gate.Judge,
		"window.Whose": window.Whose, "window.Count": window.Count, "window.Before": window.Before,
		"window.Until": window.Until, "window.Nth": window.Nth, "window.Serves": window.Serves,
		"health.Word": health.Word, "health.Line": health.Line,
		"router.Step": router.Step, "router.Steps": router.Steps, "router.Fits": router.Fits,
		"bound.Serve": bound.Serve, "bound.Wait": bound.Wait, "bound.Bound": bound.Bound, "bound.Cycle": bound.Cycle,
		"trace.Word": trace.Word, "trace.Errno": trace.Errno, "trace.Plain": trace.Plain,
		"trace.Op": trace.Op, "trace.Parse": trace.Parse, "trace.Line": trace.Line,
		"shell.Run": shell.Run,
	}
}

// makers are the functions that make the objects whose methods the chapters list.
func makers() map[string]any {
	return map[string]any{
		"cell": cell.New, "wire": wire.Read, "four": four.New, "triple": triple.New, "ring": ring.New,
		"pool": pool.New, "lane": lane.New, "bucket": bucket.New, "gate": gate.New, "wheel": wheel.New,
		"mode": mode.New, "health": health.New, "sample": sample.New, "queue": queue.New,
		"fabric": fabric.New, "shell": shell.New,
	}
}

// arguments makes what calls are given: the same in each run.
type arguments struct{ r *rand.Rand }

func newArguments() arguments { return arguments{rand.New(rand.NewPCG(1, 2))} }

func (a arguments) number() int {
	ends := []int{
		math.MinInt, math.MinInt + 1, -api.MaxTick, -2, api.MaxFrame, api.MaxFrame + 1,
		api.MaxCells, api.MaxCells + 1, api.MaxLife, api.MaxLife + 1, api.MaxWord, api.MaxWord + 1,
		api.MaxTick - 1, api.MaxTick, api.MaxTick + 1, math.MaxInt,
	}
	if a.r.IntN(3) == 0 {
		return ends[a.r.IntN(len(ends))]
	}
	return a.r.IntN(12) - 1
}

func (a arguments) text() string {
	words := []string{
		"", " ", "\n", "#", "partitions 1\n", "frame 1\n", "window 0 0 1\n", "action 0\n", "start\n", "idle 0\n",
		"pass 3\n", "log\n", "ok", "range", "write 0 0 0 1", "-1", "99999999999", "\xff", "\x00",
	}
	text := ""
	for range a.r.IntN(8) {
		text += words[a.r.IntN(len(words))]
	}
	return text
}

// channel is now and then one that is right, so that calls go past the first rule.
func (a arguments) channel() api.Channel {
	if a.r.IntN(2) == 0 {
		return api.Channel{Kind: api.Sampling, From: 0, To: 1, Words: 1 + a.r.IntN(4), Refresh: 3}
	}
	return api.Channel{
		Kind: api.Queuing, From: 1, To: 0, Words: 2, Lanes: 1 + a.r.IntN(3), Depth: 2, Hold: 2, Life: 9, Rate: 2, Cap: 3,
	}
}

func (a arguments) config() api.Config {
	return api.Config{
		Partitions: 2, Frame: 8,
		Windows:  []api.Window{{Owner: 0, Start: 0, Len: 3}, {Owner: api.Router, Start: 3, Len: 2}, {Owner: 1, Start: 5, Len: 3}},
		Channels: []api.Channel{a.channel(), a.channel()},
		Actions:  []int{a.r.IntN(3), a.r.IntN(3)},
	}
}

// bytes are now and then a config's, or the beginning of some, sealed: others are refused at once.
func (a arguments) bytes() []byte {
	if a.r.IntN(3) == 0 {
		b, _ := table.Encode(a.config())
		return b
	}
	b := []byte{231, 1}
	for range a.r.IntN(40) {
		b = append(b, byte(a.number()))
	}
	return wire.Seal(b)
}

// value is one of any type that a listed call takes.
func (a arguments) value(t reflect.Type) reflect.Value {
	if t == reflect.TypeFor[api.Config]() && a.r.IntN(2) == 0 {
		return reflect.ValueOf(a.config())
	}
	if t == reflect.TypeFor[api.Channel]() && a.r.IntN(2) == 0 {
		return reflect.ValueOf(a.channel())
	}
	if t == reflect.TypeFor[[]byte]() && a.r.IntN(2) == 0 {
		return reflect.ValueOf(a.bytes())
	}
	v := reflect.New(t).Elem()
	switch t.Kind() {
	case reflect.Int:
		v.SetInt(int64(a.number()))
	case reflect.Uint8:
		v.SetUint(uint64(a.number()) & 255)
	case reflect.Bool:
		v.SetBool(a.r.IntN(2) == 0)
	case reflect.String:
		v.SetString(a.text())
	case reflect.Slice:
		for range a.r.IntN(7) {
			v = reflect.Append(v, a.value(t.Elem()))
		}
	case reflect.Struct:
		for i := range t.NumField() {
			v.Field(i).Set(a.value(t.Field(i).Type))
		}
	case reflect.Pointer:
		return a.object(t)
	default:
		panic("no argument of " + t.String())
	}
	return v
}

// object is nil at times, since the calls must end then too.
func (a arguments) object(t reflect.Type) reflect.Value {
	for _, maker := range makers() {
		f := reflect.ValueOf(maker)
		if f.Type().Out(0) == t && a.r.IntN(4) > 0 {
			return f.Call(a.of(f.Type()))[0]
		}
	}
	return reflect.Zero(t)
}

func (a arguments) of(f reflect.Type) []reflect.Value {
	var l []reflect.Value
	for i := range f.NumIn() {
		l = append(l, a.value(f.In(i)))
	}
	return l
}

// plain is what the values hold, so that a fault tells them.
func plain(l []reflect.Value) []any {
	var all []any
	for _, v := range l {
		all = append(all, v.Interface())
	}
	return all
}

// call tells a panic as a fault of the test, with what was given.
func call(t *testing.T, name string, f reflect.Value, with []reflect.Value) []reflect.Value {
	defer func() {
		if fault := recover(); fault != nil {
			t.Errorf("%s panics at %+v: %v", name, plain(with), fault)
		}
	}()
	return f.Call(with)
}

func TestFunctionsEndAndNeverPanic(t *testing.T) {
	for name, function := range functions() {
		a, f := newArguments(), reflect.ValueOf(function)
		for range 500 {
			call(t, name, f, a.of(f.Type()))
		}
	}
}

// callMethods makes calls of an object's methods in a mixed row.
func callMethods(t *testing.T, name string, a arguments, object reflect.Value, calls int) {
	for range calls {
		i := a.r.IntN(object.NumMethod())
		f := object.Method(i)
		call(t, name+"."+object.Type().Method(i).Name, f, a.of(f.Type()))
	}
}

func TestMethodsEndAndNeverPanic(t *testing.T) {
	for name, maker := range makers() {
		a, f := newArguments(), reflect.ValueOf(maker)
		for range 50 {
			made := call(t, name+"'s maker", f, a.of(f.Type()))
			if len(made) > 0 {
				callMethods(t, name, a, made[0], 100)
			}
		}
	}
}

func TestMethodsOfNilEndAndNeverPanic(t *testing.T) {
	for name, maker := range makers() {
		object := reflect.Zero(reflect.TypeOf(maker).Out(0))
		callMethods(t, "nil "+name, newArguments(), object, 500)
	}
}
