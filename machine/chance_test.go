package machine_test

import (
	"fmt"
	"math/rand"
	"slices"
	"strconv"
	"testing"

	"lateen/api"
	"lateen/check"
	"lateen/machine"
	"lateen/show"
)

// maker makes a program as chance has it: a source, or one in the other form.
type maker struct {
	*rand.Rand
	p     api.Program
	f     *api.Func
	known map[string][]string // the variables of each type that may be used
	fresh int
}

var kinds = []string{"int", "float", "P", "Q"}

// byChance calls do with programs as chance has it, always the same.
func byChance(seed int64, times int, do func(*rand.Rand, api.Program)) {
	chance := rand.New(rand.NewSource(seed))
	for range times {
		do(chance, made(chance))
	}
}

// made answers a program as chance has it, with functions f, g and h.
func made(chance *rand.Rand) api.Program {
	m := maker{Rand: chance, p: api.Program{
		SSA: chance.Intn(2) == 0,
		Classes: []api.Class{
			{Name: "P", Fields: []api.Var{{Name: "a", Type: "int"}, {Name: "u", Type: "float"}, {Name: "n", Type: "P"}, {Name: "q", Type: "Q"}}},
			{Name: "Q", Fields: []api.Var{{Name: "n", Type: "P"}, {Name: "a", Type: "int"}}},
		},
		Globals: []api.Var{{Name: "g", Type: "int"}, {Name: "w", Type: "float"}, {Name: "h", Type: "P"}, {Name: "k", Type: "Q"}},
		Externs: []api.Extern{{Name: "e", N: 2}, {Name: "d", N: 0}},
		Funcs:   make([]api.Func, 1+chance.Intn(3)),
	}}
	for at := range m.p.Funcs {
		f := api.Func{Name: "fgh"[at : at+1], Result: m.kind()}
		for n := range chance.Intn(4) {
			f.Params = append(f.Params, api.Var{Name: "k" + strconv.Itoa(n), Type: m.kind()})
		}
		m.p.Funcs[at] = f
	}
	for at := range m.p.Funcs {
		m.f = &m.p.Funcs[at]
		m.blocks()
	}
	return m.p
}

// kind answers a type: most often int.
func (m *maker) kind() string {
	return kinds[max(0, m.Intn(7)-3)]
}

// variable answers an argument that is a variable of that type.
func (m *maker) variable(kind string) api.Arg {
	l := m.known[kind]
	return api.Arg{Kind: api.KVar, S: l[m.Intn(len(l))]}
}

// arg answers an argument of that type.
func (m *maker) arg(kind string) api.Arg {
	switch {
	case m.Intn(3) > 0 && len(m.known[kind]) > 0:
		return m.variable(kind)
	case kind == "int" && m.Intn(3) == 0:
		return api.Arg{Kind: api.KInt, N: wholes[m.Intn(len(wholes))]}
	case kind == "int":
		return api.Arg{Kind: api.KInt, N: int64(m.Intn(5))}
	case kind == "float":
		return api.Arg{Kind: api.KFloat, N: append(plains, nan)[m.Intn(len(plains)+1)]}
	}
	return api.Arg{Kind: api.KNull}
}

// dst answers the name of a variable of that type that is to be set: of a source's two, or one more.
func (m *maker) dst(kind string) string {
	if !m.p.SSA {
		return fmt.Sprintf("%s%d", kind[:1], m.Intn(2))
	}
	m.fresh++
	name := "v" + strconv.Itoa(m.fresh)
	m.f.Vars = append(m.f.Vars, api.Var{Name: name, Type: kind})
	return name
}

// knows has a variable known from here on.
func (m *maker) knows(kind, name string) {
	m.known[kind] = append(slices.Clip(m.known[kind]), name)
}

// add lays i, which sets a variable of that type, unless that is empty, behind what b has.
func (m *maker) add(b *api.Block, kind string, i api.Instr) {
	if kind != "" {
		i.Dst = m.dst(kind)
	}
	b.Code = append(b.Code, i)
	if kind != "" && m.p.SSA {
		m.knows(kind, i.Dst)
	}
}

// blocks lays blocks into the function: in the first one variables of all types are set, which may be used everywhere.
func (m *maker) blocks() {
	l := make([]api.Block, 1+m.Intn(6))
	for at, n := range m.Perm(len(l)) {
		l[at].Name = "abcdefg"[n : n+1]
	}
	m.lead(l)
	m.begin(&l[0])
	all, pools := m.known, make([]map[string][]string, len(l))
	for at := range l {
		m.known = map[string][]string{}
		for kind, names := range all {
			m.known[kind] = names
		}
		if at > 0 && m.p.SSA {
			m.phis(&l[at])
		}
		for range m.Intn(6) {
			m.instr(&l[at])
		}
		m.end(&l[at])
		pools[at] = m.known
	}
	for from := range l {
		for to := range l {
			if slices.Contains(l[from].End.To, l[to].Name) {
				m.known = pools[from]
				m.ins(&l[to], l[from].Name)
			}
		}
	}
	m.Shuffle(len(l)-1, func(i, j int) { l[i+1], l[j+1] = l[j+1], l[i+1] })
	m.f.Blocks = l
}

// lead has each block but the first one led to, by at most two ways from each.
func (m *maker) lead(l []api.Block) {
	way := func(from, to int) bool {
		names := &l[from].End.To
		if len(*names) == 2 || slices.Contains(*names, l[to].Name) {
			return false
		}
		*names = append(*names, l[to].Name)
		return true
	}
	for to := 1; to < len(l); to++ {
		for !way(m.Intn(to), to) {
		}
	}
	for range m.Intn(5) {
		if len(l) > 1 {
			way(m.Intn(len(l)), 1+m.Intn(len(l)-1))
		}
	}
}

// begin sets variables of all types.
func (m *maker) begin(b *api.Block) {
	m.known = map[string][]string{}
	for _, v := range m.f.Params {
		m.knows(v.Type, v.Name)
	}
	for _, kind := range kinds {
		for n := range 2 {
			i := api.Instr{Op: api.Mov, Args: []api.Arg{m.arg(kind)}}
			if len(kind) == 1 && m.Intn(4) > 0 {
				i = api.Instr{Op: api.New, Name: kind}
			}
			if !m.p.SSA {
				i.Dst = fmt.Sprintf("%s%d", kind[:1], n)
				m.f.Vars = append(m.f.Vars, api.Var{Name: i.Dst, Type: kind})
				m.knows(kind, i.Dst)
				b.Code = append(b.Code, i)
				continue
			}
			m.add(b, kind, i)
		}
	}
}

// phis lays phis into b, which are nothing from anywhere yet.
func (m *maker) phis(b *api.Block) {
	for range m.Intn(4) {
		kind := m.kind()
		phi := api.Phi{Dst: m.dst(kind)}
		m.knows(kind, phi.Dst)
		b.Phis = append(b.Phis, phi)
	}
}

// ins lays into each phi of b what it is from that block.
func (m *maker) ins(b *api.Block, from string) {
	for at := range b.Phis {
		phi := &b.Phis[at]
		kind := m.f.Vars[slices.IndexFunc(m.f.Vars, func(v api.Var) bool { return v.Name == phi.Dst })].Type
		phi.Ins = append(phi.Ins, api.In{Block: from, A: m.arg(kind)})
	}
}

func (m *maker) end(b *api.Block) {
	switch len(b.End.To) {
	case 0:
		b.End = api.Term{Kind: api.Ret, A: m.arg(m.f.Result)}
		if m.Intn(8) == 0 {
			b.End = api.Term{Kind: api.Trap, N: 10 + m.Int63n(5)}
		}
	case 1:
		b.End.Kind = api.Jump
	case 2:
		b.End.Kind, b.End.A = api.Branch, m.arg("int")
	}
}

// instr lays an instruction into b, as chance has it.
func (m *maker) instr(b *api.Block) {
	two := func(kind string) []api.Arg { return []api.Arg{m.arg(kind), m.arg(kind)} }
	kind := m.kind()
	switch op := 1 + m.Intn(api.Guard+4); op {
	case api.Itof, api.Ftoi:
		m.add(b, kinds[api.Ftoi-op], api.Instr{Op: op, Args: []api.Arg{m.arg(kinds[op-api.Itof])}})
	case api.Mov:
		m.add(b, kind, api.Instr{Op: op, Args: []api.Arg{m.arg(kind)}})
	case api.New, api.Load, api.Store:
		m.onObjects(b, op, m.p.Classes[m.Intn(2)])
	case api.Same:
		m.add(b, "int", api.Instr{Op: op, Args: two(kinds[2+m.Intn(2)])})
	case api.Gload, api.Gstore:
		v := m.p.Globals[m.Intn(4)]
		if op == api.Gload {
			m.add(b, v.Type, api.Instr{Op: op, Name: v.Name})
		} else {
			m.add(b, "", api.Instr{Op: op, Name: v.Name, Args: []api.Arg{m.arg(v.Type)}})
		}
	case api.Call:
		f := m.p.Funcs[m.Intn(len(m.p.Funcs))]
		m.add(b, f.Result, api.Instr{Op: op, Name: f.Name, Args: m.args(f.Params)})
	case api.Ext:
		i := api.Instr{Op: op, Name: "d"}
		if m.Intn(2) == 0 {
			i.Name, i.Args = "e", two("int")
		}
		m.add(b, "int", i)
	case api.Out:
		m.add(b, "", api.Instr{Op: op, Args: []api.Arg{m.arg(kinds[m.Intn(2)])}})
	case api.Guard, api.Guard + 1, api.Guard + 2, api.Guard + 3, api.Guard + 4:
		m.add(b, "", api.Instr{Op: api.Guard})
	default:
		from, to := "int", "int"
		if op >= api.Fadd {
			from = "float"
		}
		if op >= api.Fadd && op <= api.Fdiv {
			to = "float"
		}
		m.add(b, to, api.Instr{Op: op, Args: two(from)})
	}
}

// onObjects lays an instruction on an object of the class c into b.
func (m *maker) onObjects(b *api.Block, op int, c api.Class) {
	v := c.Fields[m.Intn(len(c.Fields))]
	switch op {
	case api.New:
		i := api.Instr{Op: op, Name: c.Name}
		if m.Intn(2) == 0 {
			i.Args = m.args(c.Fields)
		}
		m.add(b, c.Name, i)
	case api.Load:
		m.add(b, v.Type, api.Instr{Op: op, Name: v.Name, Args: []api.Arg{m.variable(c.Name)}})
	case api.Store:
		m.add(b, "", api.Instr{Op: op, Name: v.Name, Args: []api.Arg{m.variable(c.Name), m.arg(v.Type)}})
	}
}

func (m *maker) args(vars []api.Var) []api.Arg {
	var l []api.Arg
	for _, v := range vars {
		l = append(l, m.arg(v.Type))
	}
	return l
}

// some answers up to n numbers as chance has it.
func some(chance *rand.Rand, n int, one func() int64) []int64 {
	var l []int64
	for range chance.Intn(n + 1) {
		l = append(l, one())
	}
	return l
}

// handedIn answers arguments, answers, and numbers of guards that fail, as chance has it.
func handedIn(chance *rand.Rand) (args, answers, fails []int64) {
	all := slices.Concat(wholes, plains, nans)
	anyNumber := func() int64 { return all[chance.Intn(len(all))] }
	return some(chance, 6, anyNumber), some(chance, 6, anyNumber), some(chance, 3, func() int64 { return int64(chance.Intn(6)) })
}

// text answers that of p, for faults.
func text(p api.Program) string {
	s, _ := show.Text(p)
	return s
}

// Programs as chance has it do what another way of running does, with each fuel, and from each state on.
func TestByChance(t *testing.T) {
	ends := map[int]int{}
	byChance(16, 1500, func(chance *rand.Rand, p api.Program) {
		if !p.SSA && check.Source(p) != api.OK || p.SSA && !(otherForm(p) && show.Right(p)) {
			t.Fatal("it isn't right:", text(p))
		}
		args, answers, fails := handedIn(chance)
		s := start(t, p, args...)
		for range 4 {
			fuel := int64(chance.Intn(100) - 2)
			want := runOther(p, s, fuel, answers, fails)
			got := machine.Run(p, s, fuel, answers, fails)
			if told(got) != told(want) {
				t.Fatalf("with fuel %d, answers %v, fails %v:\n%s\nnot\n%s\nof %s", fuel, answers, fails, told(got), told(want), text(p))
			}
			ends[got.Status]++
			s = machine.Pass(got)
		}
	})
	for _, status := range []int{api.Ended, api.Trapped, api.Spent, api.Failed} {
		if ends[status] < 300 {
			t.Error(ends)
		}
	}
}

// silent tells whether a run stops because its Jumps have no end: there a run that goes on takes as many again.
func silent(p api.Program, s api.State, fuel int64) bool {
	return s.Status == api.Spent && s.Steps < fuel
}

// Programs as chance has it, run in pieces and over guards that fail, end as run at once where none fails.
func TestPiecesByChance(t *testing.T) {
	passed := 0
	byChance(17, 3000, func(chance *rand.Rand, p api.Program) {
		args, answers, fails := handedIn(chance)
		s := start(t, p, args...)
		const fuel = 90
		want := machine.Run(p, s, fuel, answers, nil)
		if silent(p, want, fuel) {
			return
		}
		at := s
		for piece := int64(0); at.Status == api.Runs || at.Status == api.Spent && at.Steps < fuel; piece = min(fuel, piece+int64(chance.Intn(30))) {
			seen := at
			at = machine.Run(p, at, piece, answers, fails)
			begins(t, text(p), at, seen)
			if at.Status == api.Failed {
				passed++
				at = machine.Pass(at)
			}
		}
		if told(at) != told(want) {
			t.Fatalf("in pieces:\n%s\nnot\n%s\nof %s", told(at), told(want), text(p))
		}
	})
	if passed < 400 {
		t.Error(passed)
	}
}
