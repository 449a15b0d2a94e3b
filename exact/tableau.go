package exact

import "keelblock/api"

// A tableau is the state of the simplex method. Its variables are the unknowns, 0 to n - 1, and
// the slacks of the rows, n and up; a slack may not be negative. Each of its lines says what its
// variable (bases) is as a sum over the columns, whose variables (heads) are 0 at the moment: an
// entry divided by den is a coefficient, the last entry of a line, divided by den, its value. The
// last line is the objective, and has no variable. All entries are minors of the integer matrix
// at the start: pivots divide exactly, and fractions are not needed.
type tableau struct {
	n      int
	lines  [][]api.Int
	bases  []int
	heads  []int
	den    api.Int
	scales []api.Int // by which the rows, and at the end the objective, were multiplied
}

// newTableau returns a tableau in which no line of a slack depends on an unknown any more.
func newTableau(objective []api.Rat, l []api.Row) *tableau {
	t := &tableau{n: len(objective), den: Of(1)}
	for j := range t.n {
		t.heads = append(t.heads, j)
	}
	for i, row := range l {
		coefs := append(append([]api.Rat{}, row.Coefs...), make([]api.Rat, t.n-len(row.Coefs))...)
		line, scale := cleared(coefs, row.Bound)
		for j := range t.n {
			line[j] = opposite(line[j])
		}
		t.lines, t.scales = append(t.lines, line), append(t.scales, scale)
		t.bases = append(t.bases, t.n+i)
	}
	line, scale := cleared(objective, api.Rat{})
	t.lines, t.scales = append(t.lines, line), append(t.scales, scale)
	for j := range t.n {
		t.release(j)
	}
	return t
}

// release moves the unknown of a column into a line, if a slack depends on it.
func (t *tableau) release(column int) {
	for i, v := range t.bases {
		if v >= t.n && sign(t.lines[i][column]) != 0 {
			t.pivot(i, column)
			return
		}
	}
}

// pivot exchanges the variables of a line and a column.
func (t *tableau) pivot(line, column int) {
	base := t.lines[line]
	p := base[column]
	for i, l := range t.lines {
		if i == line {
			continue
		}
		for j := range l {
			if j != column {
				l[j] = crossed(l[j], p, l[column], base[j], t.den)
			}
		}
	}
	for j := range base {
		base[j] = opposite(base[j])
	}
	base[column], t.den = t.den, p
	if sign(p) < 0 {
		t.negate()
	}
	t.bases[line], t.heads[column] = t.heads[column], t.bases[line]
}

// negate keeps den positive, so that the sign of an entry is that of its coefficient.
func (t *tableau) negate() {
	t.den = opposite(t.den)
	for _, l := range t.lines {
		for j := range l {
			l[j] = opposite(l[j])
		}
	}
}

// repair pivots until no slack is negative and returns -1, or the number of a line that shows
// that one always is. To take the least numbers (Bland's rule) keeps it from going in circles.
func (t *tableau) repair() int {
	for {
		i := t.shortLine()
		if i < 0 {
			return -1
		}
		j := t.risingColumn(i)
		if j < 0 {
			return i
		}
		t.pivot(i, j)
	}
}

// shortLine returns the line of the first slack that is negative, or -1.
func (t *tableau) shortLine() int {
	best := -1
	for i, v := range t.bases {
		if v >= t.n && sign(t.lines[i][t.n]) < 0 && (best < 0 || v < t.bases[best]) {
			best = i
		}
	}
	return best
}

// risingColumn returns the column of the first slack whose growth makes the line grow, or -1.
func (t *tableau) risingColumn(line int) int {
	best := -1
	for j := range t.n {
		if t.heads[j] >= t.n && sign(t.lines[line][j]) > 0 && (best < 0 || t.heads[j] < t.heads[best]) {
			best = j
		}
	}
	return best
}

// climb makes the objective as great as it can be and returns -1, or a column along which it
// grows for ever.
func (t *tableau) climb() int {
	last := len(t.lines) - 1
	for j := range t.n {
		if t.heads[j] < t.n && sign(t.lines[last][j]) != 0 {
			return j
		}
	}
	for {
		j := t.risingColumn(last)
		if j < 0 {
			return -1
		}
		i := t.blockingLine(j)
		if i < 0 {
			return j
		}
		t.pivot(i, j)
	}
}

// blockingLine returns the line of the slack that is the first to be 0 if the column grows (of
// several the one with the least number), or -1.
func (t *tableau) blockingLine(column int) int {
	best := -1
	for i, v := range t.bases {
		if v < t.n || sign(t.lines[i][column]) >= 0 {
			continue
		}
		if best < 0 || t.sooner(i, best, column) {
			best = i
		}
	}
	return best
}

func (t *tableau) sooner(a, b, column int) bool {
	// the entries of the column are negative: a product with one of them turns the comparison
	x := Mul(t.lines[a][t.n], t.lines[b][column])
	y := Mul(t.lines[b][t.n], t.lines[a][column])
	if c := Cmp(x, y); c != 0 {
		return c > 0
	}
	return t.bases[a] < t.bases[b]
}

// unknowns returns a number for each unknown: of those in lines by the entry of a column.
func (t *tableau) unknowns(column int) []api.Rat {
	out := make([]api.Rat, t.n)
	for k := range out {
		out[k] = number(0)
	}
	for i, v := range t.bases {
		if v < t.n {
			out[v] = fraction(duplicate(t.lines[i][column]), duplicate(t.den))
		}
	}
	return out
}

func (t *tableau) point() []api.Rat { return t.unknowns(t.n) }

// ray returns how the unknowns change along a column that climb returned.
func (t *tableau) ray(column int) []api.Rat {
	out := t.unknowns(column)
	if v := t.heads[column]; v < t.n {
		out[v] = number(1)
	}
	if sign(t.lines[len(t.lines)-1][column]) < 0 {
		for k := range out {
			out[k] = SubRat(number(0), out[k])
		}
	}
	return out
}

// multipliers returns what the coefficients of the slacks in a line take away.
func (t *tableau) multipliers(line int) []api.Rat {
	out := make([]api.Rat, len(t.bases))
	for i := range out {
		out[i] = number(0)
	}
	for j, v := range t.heads {
		if v >= t.n {
			less := Mul(opposite(t.lines[line][j]), t.scales[v-t.n])
			out[v-t.n] = fraction(less, duplicate(t.den))
		}
	}
	return out
}

// contradiction returns multipliers made of a line that repair returned: its slack is less than
// 0 whatever the others are.
func (t *tableau) contradiction(line int) []api.Rat {
	out := t.multipliers(line)
	row := t.bases[line] - t.n
	out[row] = Whole(t.scales[row])
	return out
}

// value returns the value of the objective itself, without its scale.
func (t *tableau) value() api.Rat {
	last := len(t.lines) - 1
	return fraction(duplicate(t.lines[last][t.n]), Mul(t.den, t.scales[last]))
}

// proof returns the multipliers of the objective itself, without its scale.
func (t *tableau) proof() []api.Rat {
	last := len(t.lines) - 1
	out, scale := t.multipliers(last), Whole(t.scales[last])
	for i := range out {
		out[i], _ = QuoRat(out[i], scale)
	}
	return out
}
