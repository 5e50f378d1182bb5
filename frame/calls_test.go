// Package frame tests what all layers of the program share: their calls, the given numbers, and what they import.
package frame_test

import (
	"tronage/api"
	"tronage/arena"
	"tronage/bitset"
	"tronage/build"
	"tronage/check"
	"tronage/code"
	"tronage/digraph"
	"tronage/engine"
	"tronage/eval"
	"tronage/expr"
	"tronage/first"
	"tronage/lexer"
	"tronage/look"
	"tronage/mailbox"
	"tronage/meter"
	"tronage/names"
	"tronage/parse"
	"tronage/pattern"
	"tronage/printer"
	"tronage/reader"
	"tronage/resolve"
	"tronage/scan"
	"tronage/service"
	"tronage/states"
	"tronage/table"
	"tronage/tenant"
	"tronage/tree"
)

// The functions below are never called: they build only while each layer has the calls that its chapter lists.

func _() { // meter
	var _ func(int, int) int = meter.Add
	var _ func(int, int) int = meter.Mul
	var _ func(int) *meter.Meter = meter.New
	var _ func(*meter.Meter, int) api.Errno = (*meter.Meter).Take
	var _ func(*meter.Meter, int) api.Errno = (*meter.Meter).Give
	var _ func(*meter.Meter) int = (*meter.Meter).Used
	var _ func(*meter.Meter) int = (*meter.Meter).Left
	var _ func(*meter.Meter) int = (*meter.Meter).Most
	var _ func(*meter.Meter) int = (*meter.Meter).Reset
}

func _() { // arena
	var _ func(*meter.Meter) *arena.Arena[int] = arena.New[int]
	var _ func(*arena.Arena[int], int, int) (int, api.Errno) = (*arena.Arena[int]).Put
	var _ func(*arena.Arena[int], int) (int, bool) = (*arena.Arena[int]).At
	var _ func(*arena.Arena[int], int, int) bool = (*arena.Arena[int]).Set
	var _ func(*arena.Arena[int]) int = (*arena.Arena[int]).Len
	var _ func(*arena.Arena[int]) int = (*arena.Arena[int]).Cells
	var _ func(*arena.Arena[int], int) int = (*arena.Arena[int]).Cut
}

func _() { // bitset
	var _ func(int) *bitset.Set = bitset.New
	var _ func(int, ...int) *bitset.Set = bitset.Of
	var _ func(*bitset.Set) int = (*bitset.Set).Width
	var _ func(*bitset.Set, int) bool = (*bitset.Set).Add
	var _ func(*bitset.Set, int) bool = (*bitset.Set).Drop
	var _ func(*bitset.Set, int) bool = (*bitset.Set).Has
	var _ func(*bitset.Set, *bitset.Set) bool = (*bitset.Set).Union
	var _ func(*bitset.Set, *bitset.Set) bool = (*bitset.Set).Meets
	var _ func(*bitset.Set, *bitset.Set) bool = (*bitset.Set).Same
	var _ func(*bitset.Set) *bitset.Set = (*bitset.Set).Copy
	var _ func(*bitset.Set) int = (*bitset.Set).Len
	var _ func(*bitset.Set) []int = (*bitset.Set).List
	var _ func(*bitset.Set) func(yield func(i int) bool) = (*bitset.Set).Each
}

func _() { // mailbox
	var _ func(int) *mailbox.Box[int] = mailbox.New[int]
	var _ func(*mailbox.Box[int], int) bool = (*mailbox.Box[int]).Offer
	var _ func(*mailbox.Box[int]) (int, bool) = (*mailbox.Box[int]).Poll
	var _ func(*mailbox.Box[int]) int = (*mailbox.Box[int]).Room
	var _ func(*mailbox.Box[int]) int = (*mailbox.Box[int]).Len
	var _ func(*mailbox.Box[int]) []int = (*mailbox.Box[int]).All
	var _ func(*mailbox.Box[int], *mailbox.Box[int]) int = mailbox.Move[int]
}

func _() { // lexer
	var _ func(string) ([]api.Mark, api.Diag) = lexer.Lex
	var _ func(string, int) api.Pos = lexer.At
	var _ func() []string = lexer.Words
	var _ func(string) bool = lexer.Name
}

func _() { // reader
	var _ func(string) (api.Grammar, api.Diag) = reader.Read
	var _ func([]api.Mark) (api.Grammar, api.Diag) = reader.Marks
}

func _() { // printer
	var _ func(api.Grammar) bool = printer.Right
	var _ func(api.Grammar) (string, api.Errno) = printer.Print
	var _ func(api.Pat) string = printer.Pattern
	var _ func(api.Rule) string = printer.Rule
	var _ func(string) (string, api.Diag) = printer.Canon
}

func _() { // names
	var _ func(api.Grammar) (api.Plan, api.Errno, string) = names.Of
	var _ func(api.Plan, int) string = names.Name
	var _ func(api.Plan, string) int = names.Sym
	var _ func(api.Plan, int) bool = names.Term
	var _ func(api.Plan) int = names.Accept
	var _ func(api.Plan, int) string = names.Show
}

func _() { // check
	var _ func(api.Plan) []int = check.Productive
	var _ func(api.Plan) []int = check.Reachable
	var _ func(api.Plan) (int, api.Errno) = check.Check
	var _ func(api.Plan) []int = check.Shortest
	var _ func(api.Plan, int) []int = check.Sentence
}

func _() { // first
	var _ struct {
		Nullable      []bool
		First, Follow [][]int
		Rounds        int
	} = first.Facts{}
	var _ func(api.Plan) first.Facts = first.Of
	var _ func(first.Facts, api.Plan, []int) ([]int, bool) = first.Facts.Seq
}

func _() { // states
	var _ func(api.Plan, int, int) (*states.Auto, api.Errno) = states.Build
	var _ func(*states.Auto) int = (*states.Auto).Len
	var _ func(*states.Auto) int = (*states.Auto).Total
	var _ func(*states.Auto, int) []api.Item = (*states.Auto).Kernel
	var _ func(*states.Auto, int) []api.Item = (*states.Auto).Items
	var _ func(*states.Auto, int) []api.Edge = (*states.Auto).Edges
	var _ func(*states.Auto, int, int) int = (*states.Auto).Go
	var _ func(*states.Auto, int, []int) int = (*states.Auto).Walk
	var _ func(*states.Auto, int) []int = (*states.Auto).Path
}

func _() { // digraph
	var _ func([][]int, []*bitset.Set) []*bitset.Set = digraph.Solve
	var _ func([][]int) [][]int = digraph.Parts
	var _ func([][]int) []int = digraph.Loops
}

func _() { // look
	var _ func(api.Plan, *states.Auto) *look.Looks = look.Of
	var _ func(*look.Looks, int) []int = (*look.Looks).Done
	var _ func(*look.Looks, int, int) []int = (*look.Looks).At
	var _ func(*look.Looks, int, int) []api.Edge = (*look.Looks).Ways
}

func _() { // resolve
	var _ func(api.Plan, *states.Auto, *look.Looks) *resolve.Grid = resolve.Of
	var _ func(api.Plan, int, int, []int) (api.Act, bool) = resolve.Keep
	var _ func(*resolve.Grid, int, int) api.Act = (*resolve.Grid).At
	var _ func(*resolve.Grid, int, int) int = (*resolve.Grid).Go
	var _ func(*resolve.Grid) []api.Clash = (*resolve.Grid).Clashes
	var _ func(*resolve.Grid) bool = (*resolve.Grid).Clean
	var _ func(*resolve.Grid) [][]int = (*resolve.Grid).Rows
	var _ func(api.Act) int = resolve.Code
	var _ func(int) api.Act = resolve.Decode
}

func _() { // table
	var _ struct {
		Ids, Base   []int
		Next, Owner []int
	} = table.Packed{}
	var _ func([][]int) table.Packed = table.Pack
	var _ func(table.Packed, int, int) int = table.Packed.At
	var _ func(table.Packed, int, int) []int = table.Packed.Row
	var _ func(table.Packed) int = table.Packed.Cells
	var _ func([][]int) int = table.Dense
	var _ func([][]int) ([]int, [][]int) = table.Share
}

func _() { // pattern
	var _ func(api.Pat, string, int) int = pattern.Len
	var _ func(api.Pat, string) bool = pattern.Is
	var _ func(api.Pat, api.Pat) bool = pattern.Meets
	var _ func(api.Pat) string = pattern.Example
}

func _() { // scan
	var _ func(api.Grammar, string) *scan.Scanner = scan.New
	var _ func(*scan.Scanner) (api.Tok, api.Errno) = (*scan.Scanner).Next
	var _ func(*scan.Scanner) int = (*scan.Scanner).At
	var _ func(*scan.Scanner) int = (*scan.Scanner).Skipped
	var _ func(api.Grammar, string) ([]api.Tok, api.Errno) = scan.All
	var _ func(string, api.Tok) string = scan.Text
}

func _() { // tree
	var _ func(*meter.Meter) *tree.Tree = tree.New
	var _ func(*tree.Tree, api.Tok) (int, api.Errno) = (*tree.Tree).Leaf
	var _ func(*tree.Tree, int, int, ...int) (int, api.Errno) = (*tree.Tree).Node
	var _ func(*tree.Tree) int = (*tree.Tree).Len
	var _ func(*tree.Tree) int = (*tree.Tree).Cells
	var _ func(*tree.Tree, int) int = (*tree.Tree).Sym
	var _ func(*tree.Tree, int) int = (*tree.Tree).Rule
	var _ func(*tree.Tree, int) api.Tok = (*tree.Tree).Tok
	var _ func(*tree.Tree, int) bool = (*tree.Tree).IsLeaf
	var _ func(*tree.Tree, int) []int = (*tree.Tree).Kids
	var _ func(*tree.Tree, int) []int = (*tree.Tree).Below
	var _ func(*tree.Tree, int) []api.Tok = (*tree.Tree).Yield
	var _ func(*tree.Tree, api.Plan, int) bool = (*tree.Tree).Right
	var _ func(*tree.Tree, api.Plan, int) string = (*tree.Tree).Show
	var _ func(*tree.Tree) int = (*tree.Tree).Reset
}

func _() { // engine
	var _ func(api.Plan, *resolve.Grid, []api.Tok, int, *meter.Meter) *engine.Machine = engine.New
	var _ func(*engine.Machine) bool = (*engine.Machine).Step
	var _ func(*engine.Machine) api.Outcome = (*engine.Machine).Outcome
	var _ func(*engine.Machine) *tree.Tree = (*engine.Machine).Tree
	var _ func(*engine.Machine) int = (*engine.Machine).Steps
	var _ func(*engine.Machine) int = (*engine.Machine).Depth
	var _ func(*engine.Machine) int = (*engine.Machine).Most
	var _ func(api.Plan, *resolve.Grid, []api.Tok, int, *meter.Meter, int) *engine.Machine = engine.Run
	var _ func(*resolve.Grid, api.Plan, []int, int) []int = engine.Expected
}

func _() { // expr
	var _ func(string) (api.Expr, api.Errno, int) = expr.Read
	var _ func(api.Expr) string = expr.Show
	var _ func(api.Expr) bool = expr.Right
	var _ func(api.Expr) int = expr.Size
	var _ func(api.Expr) int = expr.Most
}

func _() { // code
	var _ func(api.Expr) []api.Op = code.Compile
	var _ func([]api.Op, int) (int, api.Errno) = code.Check
	var _ func([]api.Op) int = code.Depth
	var _ func([]api.Op) []byte = code.Bytes
	var _ func([]byte) ([]api.Op, api.Errno) = code.FromBytes
	var _ func([]api.Op) (api.Expr, bool) = code.Expr
}

func _() { // eval
	var _ func(string) api.Value = eval.Leaf
	var _ func([]api.Op, []api.Value, []int) api.Value = eval.Run
	var _ func(*tree.Tree, int, [][]api.Op, string, *meter.Meter) *eval.Machine = eval.New
	var _ func(*eval.Machine) bool = (*eval.Machine).Step
	var _ func(*eval.Machine) (api.Value, api.Errno) = (*eval.Machine).Value
	var _ func(*eval.Machine) int = (*eval.Machine).Steps
	var _ func(*tree.Tree, int, [][]api.Op, string, *meter.Meter) (api.Value, api.Errno) = eval.Eval
}

func _() { // build
	var _ struct {
		Grammar api.Grammar
		Plan    api.Plan
		Grid    *resolve.Grid
		Acts    [][]api.Op
	} = build.Unit{}
	var _ func(string, api.Quotas) *build.Builder = build.New
	var _ func(*build.Builder) bool = (*build.Builder).Step
	var _ func(*build.Builder) api.Answer = (*build.Builder).Answer
	var _ func(*build.Builder) *build.Unit = (*build.Builder).Unit
	var _ func(*build.Builder) int = (*build.Builder).Steps
	var _ func(*build.Builder) int = (*build.Builder).States
	var _ func(*build.Builder) int = (*build.Builder).Items
	var _ func(string, api.Quotas) (*build.Unit, api.Answer) = build.Build
	var _ func(api.Answer, api.Answer) bool = build.Same
	var _ func(api.Quotas) bool = build.Right
}

func _() { // parse
	var _ func(*build.Unit, string, api.Quotas) *parse.Parser = parse.New
	var _ func(*parse.Parser) bool = (*parse.Parser).Step
	var _ func(*parse.Parser) api.Answer = (*parse.Parser).Answer
	var _ func(*parse.Parser) int = (*parse.Parser).Steps
	var _ func(*parse.Parser) int = (*parse.Parser).Cells
	var _ func(*parse.Parser) int = (*parse.Parser).Depth
	var _ func(*parse.Parser) int = (*parse.Parser).Fuel
	var _ func(*build.Unit, string, api.Quotas) api.Answer = parse.Parse
}

func _() { // tenant
	var _ func(api.Quotas) (*tenant.Tenant, api.Errno) = tenant.New
	var _ func(*tenant.Tenant, api.Request) api.Errno = (*tenant.Tenant).Submit
	var _ func(*tenant.Tenant) bool = (*tenant.Tenant).Step
	var _ func(*tenant.Tenant) int = (*tenant.Tenant).Pending
	var _ func(*tenant.Tenant) []api.Answer = (*tenant.Tenant).Answers
	var _ func(*tenant.Tenant) int = (*tenant.Tenant).Units
	var _ func(*tenant.Tenant) api.Quotas = (*tenant.Tenant).Charged
	var _ func(api.Quotas, []api.Request) []api.Answer = tenant.Model
}

func _() { // service
	var _ func() *service.Service = service.New
	var _ func(*service.Service, int, api.Quotas) api.Errno = (*service.Service).Register
	var _ func(*service.Service, int, api.Request) api.Errno = (*service.Service).Submit
	var _ func(*service.Service, int) bool = (*service.Service).Pick
	var _ func(*service.Service, api.Event) api.Errno = (*service.Service).Do
	var _ func(*service.Service, int) []api.Answer = (*service.Service).Answers
	var _ func(*service.Service, int) int = (*service.Service).Pending
	var _ func(*service.Service, int) api.Quotas = (*service.Service).Charged
	var _ func(*service.Service) []api.Entry = (*service.Service).Log
	var _ func(*service.Service) int = (*service.Service).Picks
	var _ func([]api.Event) *service.Service = service.Play
	var _ func([]api.Event, int) (api.Quotas, []api.Request, bool) = service.Requests
	var _ func([]api.Event, int) []api.Answer = service.Model
}
