package machine

import (
	"lateen/api"
	"lateen/flo"
	"lateen/heap"
	"lateen/num"
)

// whole answers a whole number as a value.
func whole(n int64) api.Val {
	return api.Val{Type: integer, N: n}
}

// point answers a float as a value.
func point(n int64) api.Val {
	return api.Val{Type: float, N: n}
}

// value answers what a is in the frame on top.
func (m *machine) value(a api.Arg) api.Val {
	switch a.Kind {
	case api.KVar:
		return m.top.Vars[a.S]
	case api.KInt:
		return whole(a.N)
	case api.KFloat:
		return point(a.N)
	case api.KNull:
		return api.Val{Type: ref}
	}
	return api.Val{}
}

// values answers what l are in the frame on top.
func (m *machine) values(l []api.Arg) []api.Val {
	vals := make([]api.Val, len(l))
	for at, a := range l {
		vals[at] = m.value(a)
	}
	return vals
}

// arg answers what the argument of i at that place is.
func (m *machine) arg(i api.Instr, at int) api.Val {
	if at >= len(i.Args) {
		return api.Val{}
	}
	return m.value(i.Args[at])
}

// set lays v into the variable that i sets.
func (m *machine) set(i api.Instr, v api.Val) {
	m.top.Vars[i.Dst] = v
}

// do does the instruction i, and goes on to the next place, unless i calls a function, or the run is over.
func (m *machine) do(i api.Instr) {
	if i.Op == api.Call {
		m.call(i)
		return
	}
	m.act(i)
	if m.Status == api.Runs {
		m.top.At++
	}
}

// act does the instruction i, which is no Call.
func (m *machine) act(i api.Instr) {
	a, b := m.arg(i, 0), m.arg(i, 1)
	switch i.Op {
	case api.Itof:
		m.set(i, point(flo.OfInt(a.N)))
	case api.Ftoi:
		m.set(i, whole(flo.ToInt(a.N)))
	case api.Mov:
		m.set(i, a)
	case api.New:
		m.set(i, m.object(i))
	case api.Load:
		m.load(i, a)
	case api.Store:
		m.store(i, a, b)
	case api.Same:
		m.set(i, whole(m.same(a, b)))
	case api.Gload:
		m.gload(i)
	case api.Gstore:
		m.gstore(i, a)
	case api.Ext:
		m.ext(i)
	case api.Out:
		m.see(api.Event{Args: []int64{a.N}, Float: a.Type == float})
	case api.Guard:
		m.guard()
	default:
		m.reckon(i, a.N, b.N)
	}
}

// reckon does the instruction i of layers 1 and 2.
func (m *machine) reckon(i api.Instr, a, b int64) {
	switch {
	case flo.Is(i.Op):
		n, _ := flo.Do(i.Op, a, b)
		if i.Op <= api.Fdiv {
			m.set(i, point(n))
		} else {
			m.set(i, whole(n))
		}
	case num.Is(i.Op):
		n, ok := num.Do(i.Op, a, b)
		if !ok {
			m.trap(api.ZeroCode)
			return
		}
		m.set(i, whole(n))
	default:
		m.stuck()
	}
}

// object makes the object that i tells, and answers the value that leads to it.
func (m *machine) object(i api.Instr) api.Val {
	vals := m.program.noughts[i.Name]
	if len(i.Args) > 0 {
		vals = m.values(i.Args)
	}
	// A heap that New is handed is copied whole: with the machine's own, that would be done for each object.
	made, _ := heap.New(nil, i.Name, vals)
	m.Heap = append(m.Heap, made...)
	m.Allocs++
	return api.Val{Type: ref, N: int64(len(m.Heap))}
}

// leads tells whether o leads to an object.
func (m *machine) leads(o api.Val) bool {
	return o.Type == ref && o.N >= 1 && o.N <= int64(len(m.Heap))
}

// field answers the place of the field of that name in the object to which o leads; -1, if there is none.
func (m *machine) field(o api.Val, name string) int {
	if !m.leads(o) {
		return -1
	}
	at, ok := m.program.fields[field{class: m.Heap[o.N-1].Class, name: name}]
	if !ok {
		return -1
	}
	return at
}

func (m *machine) load(i api.Instr, o api.Val) {
	v, ok := heap.Load(m.Heap, o, m.field(o, i.Name))
	if !ok {
		m.trap(api.NullCode)
		return
	}
	m.set(i, v)
}

func (m *machine) store(i api.Instr, o, v api.Val) {
	at := m.field(o, i.Name)
	if _, ok := heap.Load(m.Heap, o, at); !ok {
		m.trap(api.NullCode)
		return
	}
	// As of New: heap.Store copies the heap whole, and this one is the machine's own.
	m.Heap[o.N-1].Vals[at] = v
}

// same answers 1, if a and b are both null, or lead to one object, else 0.
func (m *machine) same(a, b api.Val) int64 {
	if a.Type == ref && a == b && (a.N == 0 || m.leads(a)) {
		return 1
	}
	return 0
}

// global answers where the value of the global of that name is kept; nil, if there is none.
func (m *machine) global(name string) *api.Val {
	at, ok := m.program.globals[name]
	if !ok || at >= len(m.Globals) {
		return nil
	}
	return &m.Globals[at]
}

func (m *machine) gload(i api.Instr) {
	v := m.global(i.Name)
	if v == nil {
		m.stuck()
		return
	}
	m.set(i, *v)
}

func (m *machine) gstore(i api.Instr, a api.Val) {
	v := m.global(i.Name)
	if v == nil {
		m.stuck()
		return
	}
	*v = a
}

// ext asks the extern of i.
func (m *machine) ext(i api.Instr) {
	e := api.Event{Name: i.Name, Res: m.answer()}
	for _, v := range m.values(i.Args) {
		e.Args = append(e.Args, v.N)
	}
	m.see(e)
	m.set(i, whole(e.Res))
}

// answer answers what the next extern that is asked answers.
func (m *machine) answer() int64 {
	at := m.Asked
	m.Asked++
	if at < 0 || at >= int64(len(m.answers)) {
		return 0
	}
	return m.answers[at]
}

// see has e seen, and marked with how many objects were made ahead of it.
func (m *machine) see(e api.Event) {
	m.Trace = append(m.Trace, e)
	m.Marks = append(m.Marks, m.Allocs)
}

// guard goes over a guard, or fails at it.
func (m *machine) guard() {
	if _, fails := m.fails[m.Guards]; fails {
		m.Status = api.Failed
	}
	m.Guards++
}
