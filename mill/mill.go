// Package mill: flows of many rates: see DOC.md.
package mill

import "errors"

var (
	ErrLong    = errors.New("too long")
	ErrToken   = errors.New("no token")
	ErrSyntax  = errors.New("it cannot go on so")
	ErrMany    = errors.New("too many items")
	ErrTwice   = errors.New("a name for the second time")
	ErrName    = errors.New("no flow has that name")
	ErrType    = errors.New("types that do not fit")
	ErrPeriod  = errors.New("periods that do not fit")
	ErrFree    = errors.New("a flow without a period")
	ErrCycle   = errors.New("a flow that needs itself")
	ErrFlow    = errors.New("no such flow or instant")
	ErrInputs  = errors.New("inputs that do not fit")
	ErrOverrun = errors.New("a job was not done in time")
)

// Flow of a program: Type 0 int, 1 bool.
type Flow struct {
	Name          string
	Type, Period  int
	Input, Output bool
}

// Task of a program: the equations of one period, in their order.
type Task struct {
	Period int
	Order  []int
}
