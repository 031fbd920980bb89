// Package faces holds tests alone: that the layers' calls have the signatures that the chapters list, and that the errors have their numbers.
package faces

import (
	"testing"

	"enclave/analyze"
	"enclave/api"
	"enclave/aterm"
	"enclave/basis"
	"enclave/chars"
	"enclave/check"
	"enclave/console"
	"enclave/display"
	"enclave/effect"
	"enclave/infer"
	"enclave/machine"
	"enclave/parse"
	"enclave/plain"
	"enclave/rtype"
	"enclave/run"
	"enclave/sample"
	"enclave/scope"
	"enclave/show"
	"enclave/simple"
	"enclave/stack"
	"enclave/term"
	"enclave/token"
	"enclave/types"
	"enclave/unify"
	"enclave/value"
	"enclave/words"
)

// The calls of the chapters, one by one: where a signature is another one, this doesn't build.
var (
	_ func(byte) uint8                                               = chars.Class
	_ func([]byte, int, ...uint8) int                                = chars.Span
	_ func([]byte, int) (int, int)                                   = chars.Place
	_ func(string) int                                               = words.Keyword
	_ func(...string) bool                                           = words.Name
	_ func(...string) bool                                           = words.Exn
	_ func(string) (int64, bool)                                     = words.Number
	_ func(int64) string                                             = words.Digits
	_ func([]byte) ([]api.Token, int, api.Errno)                     = token.Lex
	_ func(...api.Token) string                                      = token.Join
	_ func(api.Term) bool                                            = term.May
	_ func(...api.Term) int                                          = term.Size
	_ func(...api.Term) int                                          = term.Depth
	_ func(api.Term, api.Term) bool                                  = term.Same
	_ func(...api.Term) []uint8                                      = term.Kinds
	_ func(uint8, ...api.Term) bool                                  = term.Has
	_ func([]byte) (api.Program, int, api.Errno)                     = parse.Parse
	_ func([]byte) (api.Term, int, api.Errno)                        = parse.Term
	_ func(api.Term) (string, api.Errno)                             = show.Term
	_ func(api.Program) (string, api.Errno)                          = show.Program
	_ func(api.Program) (int, api.Errno)                             = scope.Closed
	_ func(...api.Term) []string                                     = scope.Free
	_ func(...api.Term) []string                                     = scope.Exns
	_ func(api.Type) bool                                            = types.May
	_ func(api.Type) bool                                            = types.Closed
	_ func(api.Type, api.Type) bool                                  = types.Same
	_ func(...api.Type) int                                          = types.Size
	_ func(...api.Type) bool                                         = types.Arrows
	_ func(api.Type) (string, api.Errno)                             = types.Text
	_ func() api.Type                                                = types.Int
	_ func(api.Type, api.Type) api.Type                              = types.Pair
	_ func(api.Type) api.Type                                        = types.Ref
	_ func(...api.Type) api.Type                                     = types.Fn
	_ func() *unify.Book                                             = unify.New
	_ func(*unify.Book) api.Type                                     = (*unify.Book).Fresh
	_ func(*unify.Book, ...api.Type) bool                            = (*unify.Book).Join
	_ func(*unify.Book, api.Type, int) (api.Type, api.Errno)         = (*unify.Book).Sense
	_ func(*unify.Book) int                                          = (*unify.Book).Vars
	_ func(api.Term) (api.Typed, int, api.Errno)                     = simple.Check
	_ func(api.Typed) api.Term                                       = simple.Erase
	_ func(api.Typed, api.Typed) bool                                = simple.Same
	_ func(...api.Atom) bool                                         = effect.Atom
	_ func([]api.Atom) bool                                          = effect.May
	_ func(...api.Atom) []api.Atom                                   = effect.Of
	_ func(...[]api.Atom) []api.Atom                                 = effect.Union
	_ func([]api.Atom, []api.Atom) bool                              = effect.Within
	_ func([]api.Atom, []api.Atom) bool                              = effect.Same
	_ func(...[]api.Atom) []int                                      = effect.Rhos
	_ func(...[]api.Atom) []string                                   = effect.Exns
	_ func([]api.Atom, ...int) []api.Atom                            = effect.Without
	_ func([]api.Atom, ...string) []api.Atom                         = effect.Handled
	_ func([]api.Atom, []int, []int) []api.Atom                      = effect.Swap
	_ func([]api.Atom) string                                        = effect.Text
	_ func(...api.RType) bool                                        = rtype.May
	_ func(api.RType, api.RType) bool                                = rtype.Same
	_ func(...api.RType) int                                         = rtype.Size
	_ func(...api.RType) []int                                       = rtype.Rhos
	_ func(api.RType, []int, []int) api.RType                        = rtype.Swap
	_ func(api.RType) api.Type                                       = rtype.Bare
	_ func(api.RType) (string, api.Errno)                            = rtype.Text
	_ func(api.ATerm) bool                                           = aterm.May
	_ func(...api.ATerm) int                                         = aterm.Size
	_ func(...api.ATerm) []int                                       = aterm.Binds
	_ func(api.ATerm) (int, bool)                                    = aterm.Apart
	_ func(api.ATerm) api.Term                                       = aterm.Erase
	_ func(api.ATerm, api.ATerm) bool                                = aterm.Same
	_ func(api.ATerm) (string, api.Errno)                            = display.Term
	_ func(api.ATerm, ...string) int                                 = display.Count
	_ func(api.ATerm) (api.RType, []api.Atom, int, api.Errno)        = check.Check
	_ func(api.ATerm) []string                                       = check.Row
	_ func() *basis.Basis                                            = basis.New
	_ func(*basis.Basis) int                                         = (*basis.Basis).Region
	_ func(*basis.Basis) int                                         = (*basis.Basis).Var
	_ func(*basis.Basis) (int, int)                                  = (*basis.Basis).Count
	_ func(*basis.Basis, ...int) bool                                = (*basis.Basis).Join
	_ func(*basis.Basis, ...int) bool                                = (*basis.Basis).JoinVars
	_ func(*basis.Basis, int) int                                    = (*basis.Basis).Name
	_ func(*basis.Basis, int) int                                    = (*basis.Basis).VarName
	_ func(*basis.Basis, int, []api.Atom, ...int) bool               = (*basis.Basis).Add
	_ func(*basis.Basis, int) ([]api.Atom, []int)                    = (*basis.Basis).Has
	_ func(*basis.Basis, ...int) ([]api.Atom, []int)                 = (*basis.Basis).Comes
	_ func(*basis.Basis) *basis.Basis                                = (*basis.Basis).Copy
	_ func(api.Typed) (api.ATerm, api.Errno)                         = infer.Infer
	_ func(api.End) bool                                             = value.May
	_ func(api.End) (string, api.Errno)                              = value.Text
	_ func(string) (api.End, api.Errno)                              = value.Read
	_ func(...api.End) bool                                          = value.Done
	_ func(int64) api.End                                            = value.Int
	_ func() api.End                                                 = value.Other
	_ func(string, int64) api.End                                    = value.Uncaught
	_ func(api.Limits) *stack.Store                                  = stack.New
	_ func(*stack.Store) (int, bool)                                 = (*stack.Store).Push
	_ func(*stack.Store) bool                                        = (*stack.Store).Pop
	_ func(*stack.Store, ...int) bool                                = (*stack.Store).Live
	_ func(*stack.Store, int, api.Cell) (api.Value, api.Errno)       = (*stack.Store).Put
	_ func(*stack.Store, api.Value) (api.Cell, api.Errno)            = (*stack.Store).Get
	_ func(*stack.Store, api.Value, api.Cell) api.Errno              = (*stack.Store).Set
	_ func(*stack.Store) int                                         = (*stack.Store).Regions
	_ func(*stack.Store) int                                         = (*stack.Store).Cells
	_ func(*stack.Store) int                                         = (*stack.Store).Most
	_ func(api.ATerm, int64, api.Limits) (api.Outcome, api.Errno)    = machine.Run
	_ func(api.ATerm, int64, ...api.Limits) (api.Outcome, api.Errno) = machine.Least
	_ func(api.Term, int64) (api.End, int64, api.Errno)              = plain.Run
	_ func(api.End, api.End) bool                                    = plain.Agree
	_ func(api.Term, ...int64) (int64, bool)                         = plain.Enough
	_ func([]byte) api.Report                                        = analyze.Analyze
	_ func(...[]byte) bool                                           = analyze.Accepted
	_ func(uint8) string                                             = analyze.Word
	_ func([]byte, int64, api.Limits) (api.Report, api.Outcome)      = run.Run
	_ func([]byte, int64, api.Limits) (api.End, api.End, bool)       = run.Both
	_ func([]byte, int64, ...api.Limits) (api.Limits, bool)          = run.Needs
	_ func(int) (string, api.Errno)                                  = sample.Chain
	_ func(int) (string, api.Errno)                                  = sample.Deep
	_ func(int) (string, api.Errno)                                  = sample.Count
	_ func(int) (string, api.Errno)                                  = sample.Throw
	_ func(int) (string, api.Errno)                                  = sample.Escape
	_ func(int) (string, api.Errno)                                  = sample.Grow
	_ func(int) []string                                             = sample.All
	_ func([]byte, int64, api.Limits) string                         = console.Play
	_ func([]byte, int64, api.Limits, ...string) []string            = console.Lines
)

func TestErrors(t *testing.T) {
	for n, e := range []api.Errno{api.OK, api.ErrArg, api.ErrForm, api.ErrLong, api.ErrScope, api.ErrType, api.ErrRegion, api.ErrRounds} {
		if int(e) != n {
			t.Error("error's number", n, int(e))
		}
	}
	if s := api.ErrRounds.Error(); s != "error 7" {
		t.Error("error's text", s)
	}
}
