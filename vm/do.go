package vm

import (
	"strconv"

	"sapling/api"
	"sapling/digits"
	"sapling/tree"
)

// quit is what an instruction panics with to give up.
type quit struct{ why api.Errno }

func give(why api.Errno) { panic(quit{why}) }

// try does an instruction; the answer is what it gives up with.
func (m *Machine) try(x api.Ins) (e api.Errno) {
	defer func() {
		switch r := recover().(type) {
		case nil:
		case quit:
			e = r.why
		default:
			panic(r)
		}
	}()
	m.next++
	m.do(x)
	return api.OK
}

func (m *Machine) do(x api.Ins) {
	switch x.Op {
	case api.OpHalt:
		m.done = true
	case api.OpPush:
		m.push(api.Value{N: x.N})
	case api.OpText:
		m.pushText(x.S)
	case api.OpLoad:
		m.push(m.cells[x.N])
	case api.OpStore:
		m.need(1)
		m.cells[x.N] = m.pop()
	case api.OpPop, api.OpDup, api.OpSwap:
		m.shift(x.Op)
	case api.OpAdd, api.OpSub, api.OpMul, api.OpDiv, api.OpMod:
		m.need(2)
		b, a := m.number(), m.number()
		m.push(api.Value{N: reckon(x.Op, a, b)})
	case api.OpLess, api.OpEq, api.OpNot:
		m.ask(x.Op)
	case api.OpJump, api.OpZero, api.OpCall, api.OpRet:
		m.turn(x)
	case api.OpCat, api.OpLen, api.OpCut, api.OpStr, api.OpNum:
		m.spell(x.Op)
	case api.OpRead, api.OpCount, api.OpPath, api.OpWrite:
		m.file(x.Op)
	case api.OpFail:
		give(api.ErrFail)
	}
}

// need gives up if there are fewer values.
func (m *Machine) need(n int) {
	if len(m.stack) < n {
		give(api.ErrStack)
	}
}

func (m *Machine) push(v api.Value) {
	if len(m.stack) >= api.MaxStack {
		give(api.ErrStack)
	}
	m.stack = append(m.stack, v)
}

func (m *Machine) pushText(s string) { m.push(api.Value{Text: true, S: s}) }

func (m *Machine) pushTruth(b bool) {
	n := 0
	if b {
		n = 1
	}
	m.push(api.Value{N: n})
}

// pop takes off the last value, which need has asked for.
func (m *Machine) pop() api.Value {
	last := len(m.stack) - 1
	v := m.stack[last]
	m.stack = m.stack[:last]
	return v
}

func (m *Machine) number() int {
	v := m.pop()
	if v.Text {
		give(api.ErrKind)
	}
	return v.N
}

func (m *Machine) text() string {
	v := m.pop()
	if !v.Text {
		give(api.ErrKind)
	}
	return v.S
}

// shift does pop, dup, swap.
func (m *Machine) shift(op int) {
	if op == api.OpSwap {
		m.need(2)
		b, a := m.pop(), m.pop()
		m.push(b)
		m.push(a)
		return
	}
	m.need(1)
	a := m.pop()
	if op == api.OpDup {
		m.push(a)
		m.push(a)
	}
}

// reckon answers add, sub, mul, div, mod of two numbers.
func reckon(op, a, b int) int {
	switch op {
	case api.OpAdd:
		return a + b
	case api.OpSub:
		return a - b
	case api.OpMul:
		return a * b
	}
	if b == 0 {
		give(api.ErrDiv)
	}
	if op == api.OpDiv {
		return a / b
	}
	return a % b
}

// ask does less, eq, not.
func (m *Machine) ask(op int) {
	if op == api.OpNot {
		m.need(1)
		m.pushTruth(m.number() == 0)
		return
	}
	m.need(2)
	b, a := m.pop(), m.pop()
	if op == api.OpEq {
		m.pushTruth(a == b)
		return
	}
	if a.Text != b.Text {
		give(api.ErrKind)
	}
	// One of the two says nothing: numbers have no text, texts the number 0.
	m.pushTruth(a.N < b.N || a.S < b.S)
}

// turn does jump, zero, call, ret.
func (m *Machine) turn(x api.Ins) {
	switch x.Op {
	case api.OpZero:
		m.need(1)
		if m.number() != 0 {
			return
		}
	case api.OpCall:
		if len(m.calls) >= api.MaxCalls {
			give(api.ErrStack)
		}
		m.calls = append(m.calls, m.next)
	case api.OpRet:
		last := len(m.calls) - 1
		if last < 0 {
			give(api.ErrStack)
		}
		m.next = m.calls[last]
		m.calls = m.calls[:last]
		return
	}
	m.next = x.N
}

// spell does cat, len, cut, str, num.
func (m *Machine) spell(op int) {
	switch op {
	case api.OpCat:
		m.need(2)
		t, s := m.text(), m.text()
		if len(s)+len(t) > api.MaxData {
			give(api.ErrSize)
		}
		m.pushText(s + t)
	case api.OpLen:
		m.need(1)
		m.push(api.Value{N: len(m.text())})
	case api.OpCut:
		m.need(3)
		to, from, s := m.number(), m.number(), m.text()
		if from < 0 || from > to || to > len(s) {
			give(api.ErrSize)
		}
		m.pushText(s[from:to])
	case api.OpStr:
		m.need(1)
		m.pushText(strconv.Itoa(m.number()))
	case api.OpNum:
		m.need(1)
		n, ok := digits.Parse(m.text())
		m.push(api.Value{N: n})
		m.pushTruth(ok)
	}
}

// file does read, count, path, write.
func (m *Machine) file(op int) {
	switch op {
	case api.OpRead:
		m.need(1)
		data, ok := tree.Get(m.view, m.text())
		m.pushText(data)
		m.pushTruth(ok)
	case api.OpCount:
		m.push(api.Value{N: len(m.view.Files)})
	case api.OpPath:
		m.need(1)
		n, name := m.number(), ""
		ok := n >= 0 && n < len(m.view.Files)
		if ok {
			name = m.view.Files[n].Path
		}
		m.pushText(name)
		m.pushTruth(ok)
	case api.OpWrite:
		m.need(2)
		data, name := m.text(), m.text()
		out, e := tree.Put(m.out, api.File{Path: name, Data: data})
		if e != api.OK {
			give(e)
		}
		m.out = out
	}
}
