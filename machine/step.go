package machine

import (
	"lateen/api"
)

// machine is a run that is under way.
type machine struct {
	api.State
	program program
	answers []int64
	fails   map[int64]struct{} // the numbers of the guards that fail
	left    int64              // how many steps that cost 1 may still be done
	jumps   int                // how many Jumps were taken since the last such step, or since the run was begun
	top     *api.Live          // the frame on top
	here    *block             // the block at which it stands; nil, if there is none
}

// stand looks up where the frame on top stands.
func (m *machine) stand() {
	m.top, m.here = nil, nil
	if len(m.Frames) == 0 {
		return
	}
	m.top = &m.Frames[len(m.Frames)-1]
	if f := m.program.function(m.top.Func); f != nil {
		m.here = f.blocks[m.top.Block]
	}
}

// instr answers the instruction at which the frame on top stands, and whether there is one.
func (m *machine) instr() (api.Instr, bool) {
	if m.here == nil || m.top.At < 0 || m.top.At >= len(m.here.Code) {
		return api.Instr{}, false
	}
	return m.here.Code[m.top.At], true
}

// atEnd tells whether the frame on top stands at a block's end.
func (m *machine) atEnd() bool {
	return m.here != nil && m.top.At == len(m.here.Code)
}

// step does a step, or tells by the status that there is none.
func (m *machine) step() {
	i, ok := m.instr()
	switch {
	case !ok && !m.atEnd():
		m.stuck()
	case !ok && m.here.End.Kind == api.Jump:
		m.jump()
	case m.left == 0:
		m.Status = api.Spent
	default:
		m.left--
		m.Steps++
		m.jumps = 0
		if ok {
			m.do(i)
		} else {
			m.end(m.here.End)
		}
	}
}

// stuck ends a run that can't go on. No promise speaks of such: it comes of programs and states that aren't right.
func (m *machine) stuck() {
	m.Status = api.Spent
}

// trap has the run trapped, at the place where it is.
func (m *machine) trap(code int64) {
	m.Status, m.Code = api.Trapped, code
}

// jump takes a Jump, if there weren't so many already that blocks must have been gone through again.
func (m *machine) jump() {
	if m.jumps == api.MaxNodes {
		m.Status = api.Spent
		return
	}
	m.jumps++
	m.take(0)
}

// end does the end of a block, which is no Jump.
func (m *machine) end(t api.Term) {
	switch t.Kind {
	case api.Branch:
		if m.value(t.A).N != 0 {
			m.take(0)
		} else {
			m.take(1)
		}
	case api.Ret:
		m.ret(m.value(t.A))
	case api.Trap:
		m.trap(t.N)
	default:
		m.stuck()
	}
}

// take takes the way from the block at which the frame on top stands to the one that stands at that place of its end's To.
func (m *machine) take(at int) {
	if at >= len(m.here.to) || m.here.to[at] == nil {
		m.stuck()
		return
	}
	to := m.here.to[at]
	// All phis are told by the variables as they were: none is set ahead of that.
	vals := m.values(to.from(m.here.Name))
	for at, phi := range to.Phis {
		m.top.Vars[phi.Dst] = vals[at]
	}
	m.top.Block, m.top.At = to.Name, 0
	m.here = to
}

// call lays a frame of the function that i calls on top.
func (m *machine) call(i api.Instr) {
	f := m.program.function(i.Name)
	if f == nil {
		m.stuck()
		return
	}
	vals := make([]api.Val, len(f.Params))
	copy(vals, m.values(i.Args))
	m.Frames = append(m.Frames, begun(f.Func, vals))
	m.stand()
}

// ret takes the frame on top away, and hands v on.
func (m *machine) ret(v api.Val) {
	last := len(m.Frames) - 1
	if last == 0 {
		m.Status, m.Result, m.Frames = api.Ended, v, nil
		return
	}
	// What the frame had isn't to stay in spare room.
	m.Frames[last] = api.Live{}
	m.Frames = m.Frames[:last]
	m.stand()
	i, ok := m.instr()
	if !ok || i.Op != api.Call {
		m.stuck()
		return
	}
	m.set(i, v)
	m.top.At++
}
