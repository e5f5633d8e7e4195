package wake_test

import (
	"math"
	"math/bits"
	"reflect"
	"slices"
	"testing"

	"glidepath/api"
	"glidepath/wake"
)

// leastCost is the minimum cost of the rows from one on, with the columns that are free; it knows nothing of assignments.
func leastCost(m [][]int, row int, taken uint, known map[uint]int) int {
	if row == len(m) {
		return 0
	}
	if cost, ok := known[taken]; ok {
		return cost
	}
	least := math.MaxInt
	for column, entry := range m[row] {
		if taken&(1<<column) == 0 {
			least = min(least, entry+leastCost(m, row+1, taken|1<<column, known))
		}
	}
	known[taken] = least
	return least
}

// firstCheapest takes the first column for each row with which the minimum cost can be reached still.
func firstCheapest(m [][]int) ([]int, int) {
	known := map[uint]int{}
	least := leastCost(m, 0, 0, known)
	var assigned []int
	taken, left := uint(0), least
	for row := range m {
		for column, entry := range m[row] {
			next := taken | 1<<column
			if next != taken && entry+leastCost(m, row+1, next, known) == left {
				assigned, taken, left = append(assigned, column), next, left-entry
				break
			}
		}
	}
	return assigned, least
}

// isCertain says that without its entry in the cheapest assignment a row makes all assignments cost more.
func isCertain(m [][]int, row int) bool {
	assigned, least := firstCheapest(m)
	n := copied(m)
	n[row][assigned[row]] += 1000000000
	_, other := firstCheapest(n)
	return other > least
}

func copied(m [][]int) [][]int {
	n := slices.Clone(m)
	for i := range n {
		n[i] = slices.Clone(n[i])
	}
	return n
}

func sum(l []int) int {
	s := 0
	for _, x := range l {
		s += x
	}
	return s
}

// testMatrices are matrices of all sizes, many of them with several cheapest assignments.
func testMatrices() [][][]int {
	draw := &draws{67}
	l := [][][]int{{{0}}, {{10000000}}, {{1, 2}, {2, 4}}, {{1, 1}, {1, 1}}}
	for i := range 400 {
		l = append(l, draw.matrix(1+i%6, []int{1, 3, 9, 100, 10000000}[i%5]))
	}
	// Only the ends of what a cost may be.
	for i := range 100 {
		m := draw.matrix(1+i%6, 1)
		for _, row := range m {
			for column := range row {
				row[column] *= 10000000
			}
		}
		l = append(l, m)
	}
	// Each row is cheaper in the column after its own one: the potentials are far apart.
	m := make([][]int, 6)
	for i := range m {
		m[i] = slices.Repeat([]int{10000000}, 6)
		m[i][i] = 10000000 * min(i, 1)
		if i < 5 {
			m[i][i+1] = 0
		}
	}
	return append(l, m, transposed(m))
}

func transposed(m [][]int) [][]int {
	n := copied(m)
	for i := range m {
		for j := range m {
			n[i][j] = m[j][i]
		}
	}
	return n
}

func proof(assigned, rows, columns []int) api.WakeProof {
	return api.WakeProof{Assigned: assigned, Rows: rows, Columns: columns}
}

// P6.3
func TestCheckMatrix(t *testing.T) {
	for _, m := range testMatrices() {
		if i, e := wake.CheckMatrix(m); i != 0 || e != api.OK {
			t.Errorf("%v: %d, %d", m, i, e)
		}
	}
	for _, x := range badMatrices() {
		if i, e := wake.CheckMatrix(x.value); i != x.index || e != x.want {
			t.Errorf("%v: %d, %d, want %d, %d", x.value, i, e, x.index, x.want)
		}
	}
}

// P6.3, examples 4 and 5
func TestCheapestOfExamples(t *testing.T) {
	for _, c := range []struct {
		matrix   [][]int
		assigned []int
		cost     int
		certain  []int
	}{
		{[][]int{{1, 2}, {2, 4}}, []int{1, 0}, 4, []int{0, 1}},
		{[][]int{{1, 1}, {1, 1}}, []int{0, 1}, 2, nil},
		{[][]int{{7, 5}, {5, 0}}, []int{0, 1}, 7, []int{0, 1}},
		{[][]int{{7, 3}, {3, 0}}, []int{1, 0}, 6, []int{0, 1}},
		// A matrix of one row is certain.
		{[][]int{{10000000}}, []int{0}, 10000000, []int{0}},
		{[][]int{{0}}, []int{0}, 0, []int{0}},
		// The last row is certain alone, and the first one.
		{[][]int{{1, 1, 9}, {1, 1, 9}, {0, 0, 3}}, []int{0, 1, 2}, 5, []int{2}},
		{[][]int{{3, 0, 0}, {9, 1, 1}, {9, 1, 1}}, []int{0, 1, 2}, 5, []int{0}},
		// All assignments cost the same.
		{[][]int{{1, 2, 3}, {2, 3, 4}, {3, 4, 5}}, []int{0, 1, 2}, 9, nil},
	} {
		assigned, cost, e := wake.CheapestOf(c.matrix)
		if !same(assigned, c.assigned) || cost != c.cost || e != api.OK {
			t.Errorf("%v: %v with %d, %d, want %v with %d", c.matrix, assigned, cost, e, c.assigned, c.cost)
		}
		if certain, e := wake.CertainIn(c.matrix); !same(certain, c.certain) || e != api.OK {
			t.Errorf("%v: %v are certain, %d, want %v", c.matrix, certain, e, c.certain)
		}
	}
}

// P6.3, P6.10
func TestCheapestOfByDefinition(t *testing.T) {
	uncertain := 0
	for _, m := range testMatrices() {
		want, least := firstCheapest(m)
		assigned, cost, e := wake.CheapestOf(m)
		if !same(assigned, want) || cost != least || e != api.OK {
			t.Fatalf("%v: %v with %d, %d, want %v with %d", m, assigned, cost, e, want, least)
		}
		var rows []int
		for row := range m {
			if isCertain(m, row) {
				rows = append(rows, row)
			}
		}
		certain, e := wake.CertainIn(m)
		if !same(certain, rows) || e != api.OK {
			t.Fatalf("%v: %v are certain, %d, want %v", m, certain, e, rows)
		}
		if len(rows) > 0 && len(rows) < len(m) {
			uncertain++
		}
	}
	if uncertain < 20 {
		t.Error("too few matrices have rows of both kinds")
	}
}

// P6.3, P6.10: CheckAssignment accepts PotentialsOf, which is the cheapest assignment with potentials that prove it.
func TestPotentialsOf(t *testing.T) {
	for _, m := range testMatrices() {
		p, e := wake.PotentialsOf(m)
		want, least := firstCheapest(m)
		if !same(p.Assigned, want) || len(p.Rows) != len(m) || len(p.Columns) != len(m) || e != api.OK {
			t.Fatalf("%v: %v, %d, want %v", m, p, e, want)
		}
		if sum(p.Rows)+sum(p.Columns) != least {
			t.Fatalf("%v: the potentials %v are not %d together", m, p, least)
		}
		for i, row := range m {
			for j, entry := range row {
				if entry < p.Rows[i]+p.Columns[j] {
					t.Fatalf("%v: %v exceeds the entry %d of row %d", m, p, j, i)
				}
			}
		}
		if row, e := wake.CheckAssignment(m, p); row != 0 || e != api.OK {
			t.Fatalf("%v: %v is not accepted: %d, %d", m, p, row, e)
		}
	}
}

// P6.3, example 4
func TestCheckAssignmentExample(t *testing.T) {
	m := [][]int{{1, 2}, {2, 4}}
	for _, c := range []struct {
		proof api.WakeProof
		index int
		want  api.Errno
	}{
		{proof([]int{1, 0}, []int{1, 2}, []int{0, 1}), 0, api.OK},
		// Any potentials that prove it are accepted, also those below 0.
		{proof([]int{1, 0}, []int{2, 3}, []int{-1, 0}), 0, api.OK},
		{proof([]int{1, 0}, []int{-59999999, -59999998}, []int{60000000, 60000001}), 1, api.ErrRange},
		{proof([]int{1, 0}, []int{-59999998, -59999997}, []int{59999999, 60000000}), 0, api.OK},
		{proof([]int{1, 0}, []int{60000000, 60000001}, []int{-59999999, -59999998}), 1, api.ErrRange},
		{proof([]int{1, 0}, []int{59999999, 60000000}, []int{-59999998, -59999997}), 0, api.OK},
		{proof([]int{1, 0}, []int{60000001, 60000002}, []int{-60000000, -59999999}), 0, api.ErrRange},
		{proof([]int{1, 0}, []int{-60000000, -59999999}, []int{60000001, 60000002}), 0, api.ErrRange},
		{proof([]int{1, 0}, []int{-59999999, -60000000}, []int{0, 0}), 0, api.ErrClash},
		{proof([]int{1, 0}, []int{-59999999, -60000001}, []int{0, 0}), 1, api.ErrRange},
		{proof([]int{1, 0}, []int{0, 0}, []int{0, -60000001}), 1, api.ErrRange},
		{proof([]int{1, 0}, []int{0, 0}, []int{-60000000, -60000000}), 0, api.ErrClash},
		// Another assignment costs more than the potentials say.
		{proof([]int{0, 1}, []int{1, 2}, []int{0, 1}), 0, api.ErrClash},
		{proof([]int{1, 0}, []int{1, 2}, []int{0, 0}), 0, api.ErrClash},
		{proof([]int{1, 0}, []int{1, 1}, []int{0, 1}), 0, api.ErrClash},
		{proof([]int{1, 0}, []int{1, 2}, []int{0, 2}), 0, api.ErrProof},
		{proof([]int{1, 0}, []int{1, 3}, []int{0, 1}), 1, api.ErrProof},
		{proof([]int{1, 0}, []int{2, 2}, []int{0, 0}), 0, api.ErrProof},
		// The entry is that of the row and the column, not of the row and its own column.
		{proof([]int{1, 0}, []int{0, 2}, []int{1, 1}), 1, api.ErrProof},
		{proof([]int{0, 1}, []int{1, 4}, []int{0, 0}), 1, api.ErrProof},
	} {
		if i, e := wake.CheckAssignment(m, c.proof); i != c.index || e != c.want {
			t.Errorf("%v: %d, %d, want %d, %d", c.proof, i, e, c.index, c.want)
		}
	}
}

// P6.3: the errors in their order, with the index of the row.
func TestCheckAssignmentErrors(t *testing.T) {
	m := [][]int{{5, 9, 9}, {9, 6, 9}, {9, 9, 7}}
	for _, c := range []struct {
		assigned, rows, columns []int
		index                   int
		want                    api.Errno
	}{
		{[]int{0, 1, 2}, []int{5, 6, 7}, []int{0, 0, 0}, 0, api.OK},
		{[]int{0, 1}, []int{5, 6, 7}, []int{0, 0, 0}, 0, api.ErrShape},
		{[]int{0, 1, 2, 3}, []int{5, 6, 7}, []int{0, 0, 0}, 0, api.ErrShape},
		{[]int{3, 3, 3}, []int{5, 6}, []int{0, 0, 0}, 0, api.ErrShape},
		{[]int{0, 1, 2}, []int{5, 6, 7, 8}, []int{0, 0, 0}, 0, api.ErrShape},
		{[]int{0, 1, 2}, []int{5, 6, 7}, []int{0, 0}, 0, api.ErrShape},
		{[]int{0, 1, 2}, []int{5, 6, 7}, []int{0, 0, 0, 0}, 0, api.ErrShape},
		{[]int{0, 1, 2}, []int{5, 6, 7}, nil, 0, api.ErrShape},
		{[]int{0, 1, 2}, nil, []int{0, 0, 0}, 0, api.ErrShape},
		{nil, []int{5, 6, 7}, []int{0, 0, 0}, 0, api.ErrShape},
		{nil, nil, nil, 0, api.ErrShape},
		{[]int{3, 0, 0}, []int{5, 6, 7}, []int{0, 0, 0}, 0, api.ErrMissing},
		{[]int{0, -1, 0}, []int{5, 6, 7}, []int{0, 0, 0}, 1, api.ErrMissing},
		{[]int{0, math.MaxInt, 5}, []int{5, 6, 7}, []int{0, 0, 0}, 1, api.ErrMissing},
		{[]int{0, 1, math.MinInt}, []int{5, 6, 7}, []int{0, 0, 0}, 2, api.ErrMissing},
		{[]int{0, 1, 3}, []int{60000001, 6, 7}, []int{0, 0, 0}, 2, api.ErrMissing},
		{[]int{1, 1, 3}, []int{60000001, 6, 7}, []int{0, 0, 0}, 1, api.ErrDouble},
		{[]int{2, 0, 2}, []int{60000001, 6, 7}, []int{0, 0, 0}, 2, api.ErrDouble},
		{[]int{0, 0, 0}, []int{5, 6, 7}, []int{0, 0, 0}, 1, api.ErrDouble},
		{[]int{3, 3, 3}, []int{5, 6, 7}, []int{0, 0, 0}, 0, api.ErrMissing},
		// The range of all potentials comes before what they prove.
		{[]int{0, 1, 2}, []int{60000000, 6, 60000001}, []int{60000000, 0, 0}, 2, api.ErrRange},
		{[]int{0, 1, 2}, []int{60000000, 6, 7}, []int{0, 60000001, 0}, 1, api.ErrRange},
		{[]int{0, 1, 2}, []int{6, math.MinInt, 7}, []int{0, 0, math.MinInt}, 1, api.ErrRange},
		{[]int{0, 1, 2}, []int{6, 6, 7}, []int{0, 0, math.MinInt}, 2, api.ErrRange},
		{[]int{0, 1, 2}, []int{6, 6, 7}, []int{math.MaxInt, 0, 0}, 0, api.ErrRange},
		{[]int{0, 1, 2}, []int{math.MaxInt, 6, 7}, []int{0, 0, 0}, 0, api.ErrRange},
		{[]int{0, 1, 2}, []int{-60000000, -60000000, 60000000}, []int{0, 0, 0}, 2, api.ErrProof},
		{[]int{0, 1, 2}, []int{5, 7, 8}, []int{0, 0, 0}, 1, api.ErrProof},
		{[]int{0, 1, 2}, []int{5, 6, 7}, []int{0, 0, 4}, 1, api.ErrProof},
		{[]int{2, 1, 0}, []int{5, 6, 7}, []int{0, 0, 0}, 0, api.ErrClash},
		{[]int{0, 1, 2}, []int{5, 6, 6}, []int{0, 0, 0}, 0, api.ErrClash},
		{[]int{0, 1, 2}, []int{5, 6, 7}, []int{0, 0, -1}, 0, api.ErrClash},
	} {
		if i, e := wake.CheckAssignment(m, proof(c.assigned, c.rows, c.columns)); i != c.index || e != c.want {
			t.Errorf("%v, %v, %v: %d, %d, want %d, %d", c.assigned, c.rows, c.columns, i, e, c.index, c.want)
		}
	}
}

// P6.10: no assignment costs less than one that is accepted; potentials that are moved a little are not, unless they still prove it.
func TestCheckAssignmentByDefinition(t *testing.T) {
	draw := &draws{68}
	accepted := 0
	for i := range 3000 {
		n := 1 + i%4
		m := draw.matrix(n, 4)
		p, e := wake.PotentialsOf(m)
		expect(t, "PotentialsOf", e, api.OK)
		p.Rows[draw.from(0, n-1)] += draw.from(-1, 1)
		p.Columns[draw.from(0, n-1)] += draw.from(-1, 1)
		row, column := draw.from(0, n-1), draw.from(0, n-1)
		p.Assigned[row], p.Assigned[column] = p.Assigned[column], p.Assigned[row]
		index, want := 0, api.OK
		cost := 0
		for i := n - 1; i >= 0; i-- {
			cost += m[i][p.Assigned[i]]
			for j, entry := range m[i] {
				if entry < p.Rows[i]+p.Columns[j] {
					index, want = i, api.ErrProof
				}
			}
		}
		if want == api.OK && cost != sum(p.Rows)+sum(p.Columns) {
			want = api.ErrClash
		}
		if got, e := wake.CheckAssignment(m, p); got != index || e != want {
			t.Fatalf("%v, %v: %d, %d, want %d, %d", m, p, got, e, index, want)
		}
		if want == api.OK {
			accepted++
			if _, least := firstCheapest(m); cost != least {
				t.Fatalf("%v: %v is accepted with %d, but %d is possible", m, p, cost, least)
			}
		}
	}
	if accepted < 100 {
		t.Error("too few assignments were accepted")
	}
}

// P6.3
func TestMatrixErrors(t *testing.T) {
	for _, x := range badMatrices() {
		assigned, cost, e := wake.CheapestOf(x.value)
		expectOnly(t, "CheapestOf", assigned, e, x.want)
		expectOnly(t, "CheapestOf", cost, e, x.want)
		p, e := wake.PotentialsOf(x.value)
		expectOnly(t, "PotentialsOf", p, e, x.want)
		certain, e := wake.CertainIn(x.value)
		expectOnly(t, "CertainIn", certain, e, x.want)
		// The index of the row is not returned.
		for _, p := range []api.WakeProof{{}, proof([]int{0, 1, 2}, []int{0, 0, 0}, []int{0, 0, 0}), proof([]int{0, 5}, []int{0, 0}, []int{0, 0})} {
			row, e := wake.CheckAssignment(x.value, p)
			expectOnly(t, "CheckAssignment", row, e, x.want)
		}
	}
}

// P6.10: a row that is certain has the column of the cheapest assignment in every cheapest one.
func TestCertainIn(t *testing.T) {
	for _, m := range testMatrices() {
		if len(m) > 4 {
			continue
		}
		certain, e := wake.CertainIn(m)
		expect(t, "CertainIn", e, api.OK)
		first, least := firstCheapest(m)
		for number := range 1 << (2 * len(m)) {
			taken, cost := uint(0), 0
			for row := range m {
				if column := number >> (2 * row) & 3; column < len(m) {
					taken |= 1 << column
					cost += m[row][column]
				}
			}
			if bits.OnesCount(taken) < len(m) || cost > least {
				continue
			}
			for _, row := range certain {
				if number>>(2*row)&3 != first[row] {
					t.Fatalf("%v: row %d is not certain", m, row)
				}
			}
		}
	}
}

// R3, R4
func TestAssignmentMemory(t *testing.T) {
	m := [][]int{{1, 1, 9}, {1, 1, 9}, {0, 0, 3}}
	kept := copied(m)
	p, _ := wake.PotentialsOf(m)
	keptProof := proof(slices.Clone(p.Assigned), slices.Clone(p.Rows), slices.Clone(p.Columns))
	wake.CheckAssignment(m, p)
	wake.CheckMatrix(m)
	assigned, _, _ := wake.CheapestOf(m)
	certain, _ := wake.CertainIn(m)
	if !reflect.DeepEqual(m, kept) || !reflect.DeepEqual(p, keptProof) {
		t.Errorf("%v, %v was changed to %v, %v", kept, keptProof, m, p)
	}
	for _, l := range [][]int{assigned, certain, p.Assigned, p.Rows, p.Columns} {
		for i := range l {
			l[i] = -7
		}
		_ = append(l[:len(l):cap(l)], -7)
	}
	if !reflect.DeepEqual(m, kept) {
		t.Errorf("a result shares memory with the matrix %v", m)
	}
	if again, _ := wake.PotentialsOf(m); !reflect.DeepEqual(again, keptProof) {
		t.Errorf("the second time: %v, want %v", again, keptProof)
	}
	if again, cost, _ := wake.CheapestOf(m); !same(again, []int{0, 1, 2}) || cost != 5 {
		t.Errorf("the second time: %v with %d", again, cost)
	}
}
