package ops

// The kinds are named by what stands where: the f is the operator, a y may have its priority, an x only a lower one.
const (
	xfx = iota
	xfy
	yfx
	fx
	fy
)

type operator struct {
	name           string
	kind, priority int
}

// Infix and prefix operators have a table each, since some names are both.
var infixes = [...]operator{
	{":-", xfx, 1200},
	{";", xfy, 1100},
	{"->", xfy, 1050},
	{",", xfy, 1000},
	{"#<=>", xfx, 760},
	{"=", xfx, 700},
	{`\=`, xfx, 700},
	{"==", xfx, 700},
	{`\==`, xfx, 700},
	{"@<", xfx, 700},
	{"@>", xfx, 700},
	{"@=<", xfx, 700},
	{"@>=", xfx, 700},
	{"is", xfx, 700},
	{"=:=", xfx, 700},
	{`=\=`, xfx, 700},
	{"<", xfx, 700},
	{">", xfx, 700},
	{"=<", xfx, 700},
	{">=", xfx, 700},
	{"=..", xfx, 700},
	{"#=", xfx, 700},
	{`#\=`, xfx, 700},
	{"#<", xfx, 700},
	{"#>", xfx, 700},
	{"#=<", xfx, 700},
	{"#>=", xfx, 700},
	{"in", xfx, 700},
	{`\/`, yfx, 550},
	{"..", xfx, 450},
	{"+", yfx, 500},
	{"-", yfx, 500},
	{"*", yfx, 400},
	{"//", yfx, 400},
	{"rem", yfx, 400},
	{"mod", yfx, 400},
	{"div", yfx, 400},
	{"^", xfy, 200},
}

var prefixes = [...]operator{
	{":-", fx, 1200},
	{`\+`, fy, 900},
	{"+", fy, 200},
	{"-", fy, 200},
}
