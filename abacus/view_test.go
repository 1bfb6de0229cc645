package abacus_test

import (
	"math/big"
	"math/rand/v2"
	"testing"

	"abacus/abacus"
	"abacus/api"
)

// fits tells whether a view fits a buffer, as the document says it, place by place.
func fits(v api.View, length int) bool {
	if length > api.MaxBuffer || v.Rows < 0 || v.Rows > api.MaxSide || v.Cols < 0 || v.Cols > api.MaxSide {
		return false
	}
	seen := map[int64]bool{}
	for i := range v.Rows {
		for j := range v.Cols {
			place := big.NewInt(int64(v.Offset))
			place.Add(place, new(big.Int).Mul(big.NewInt(int64(i)), big.NewInt(int64(v.RowStep))))
			place.Add(place, new(big.Int).Mul(big.NewInt(int64(j)), big.NewInt(int64(v.ColStep))))
			if place.Sign() < 0 || place.Cmp(big.NewInt(int64(length))) >= 0 || seen[place.Int64()] {
				return false
			}
			seen[place.Int64()] = true
		}
	}
	return true
}

func checkFits(t *testing.T, buffer []uint64, v api.View, want bool) {
	t.Helper()
	if got := fits(v, len(buffer)); got != want {
		t.Fatalf("the test itself: %+v fits %d: %v", v, len(buffer), got)
	}
	w, err := abacus.NewWriter(buffer, v, api.RowBox)
	switch {
	case want && (w == nil || err != api.OK):
		t.Errorf("P4: %+v fits %d numbers: %v, %d", v, len(buffer), w, err)
	case !want && (w != nil || err != api.ErrView):
		t.Errorf("P4: %+v does not fit %d numbers: %v, %d", v, len(buffer), w, err)
	}
}

func TestViewTable(t *testing.T) {
	const least, most = -1 << 63, 1<<63 - 1
	ten := make([]uint64, 10)
	for _, c := range []struct {
		v    api.View
		want bool
	}{
		{api.View{Rows: 2, Cols: 5, RowStep: 5, ColStep: 1}, true},
		{api.View{Rows: 2, Cols: 5, RowStep: 1, ColStep: 2}, true},
		{api.View{Rows: 2, Cols: 5, Offset: 9, RowStep: -5, ColStep: -1}, true},
		{api.View{Rows: 2, Cols: 5, Offset: 5, RowStep: -5, ColStep: 1}, true},
		{api.View{Rows: 2, Cols: 5, Offset: 4, RowStep: 5, ColStep: -1}, true},
		{api.View{Rows: 2, Cols: 5, Offset: 1, RowStep: 5, ColStep: 1}, false},
		{api.View{Rows: 2, Cols: 5, Offset: -1, RowStep: 5, ColStep: 1}, false},
		{api.View{Rows: 2, Cols: 5, RowStep: 4, ColStep: 1}, false},
		{api.View{Rows: 2, Cols: 5, Offset: 4, RowStep: -4, ColStep: 1}, false},
		{api.View{Rows: 3, Cols: 3, RowStep: 2, ColStep: 2}, false},
		{api.View{Rows: 3, Cols: 3, RowStep: 3, ColStep: 1}, true},
		{api.View{Rows: 3, Cols: 2, RowStep: 2, ColStep: 4}, false},
		{api.View{Rows: 2, Cols: 2, RowStep: 2, ColStep: 4}, true},
		{api.View{Rows: 2, Cols: 1}, false},
		{api.View{Rows: 1, Cols: 2}, false},
		{api.View{Rows: 1, Cols: 1}, true},
		{api.View{Rows: 1, Cols: 1, Offset: 9}, true},
		{api.View{Rows: 1, Cols: 1, Offset: 10}, false},
		{api.View{Rows: 1, Cols: 1, Offset: -1}, false},
		{api.View{Rows: 1, Cols: 1, Offset: 9, RowStep: most, ColStep: least}, true},
		{api.View{Rows: 1, Cols: 1, Offset: most, RowStep: least}, false},
		{api.View{Rows: 1, Cols: 1, Offset: least, ColStep: least}, false},
		{api.View{Rows: 1, Cols: 10, RowStep: least, ColStep: 1}, true},
		{api.View{Rows: 10, Cols: 1, RowStep: 1, ColStep: most}, true},
		{api.View{Rows: 2, Cols: 1, RowStep: most}, false},
		{api.View{Rows: 2, Cols: 1, Offset: 9, RowStep: least}, false},
		{api.View{Rows: 3, Cols: 1, RowStep: least}, false},   // 2 steps wrap round to 0
		{api.View{Rows: 5, Cols: 1, RowStep: 1 << 62}, false}, // 4 steps do
		{api.View{Rows: 2, Cols: 2, RowStep: least, ColStep: least}, false},
		{api.View{Rows: 2, Cols: 2, Offset: 5, RowStep: 1 << 62, ColStep: -1 << 62}, false},
		{api.View{Rows: 0, Cols: 0, Offset: least, RowStep: most, ColStep: most}, true},
		{api.View{Rows: 0, Cols: 40, Offset: most, RowStep: most, ColStep: most}, true},
		{api.View{Rows: 40, Cols: 0, Offset: -1}, true},
		{api.View{Rows: -1, Cols: 0}, false},
		{api.View{Rows: 0, Cols: -1}, false},
		{api.View{Rows: 41, Cols: 0}, false},
		{api.View{Rows: 0, Cols: 41}, false},
		{api.View{Rows: least, Cols: least}, false},
		{api.View{Rows: most, Cols: most}, false},
	} {
		checkFits(t, ten, c.v, c.want)
	}
}

func TestViewLimits(t *testing.T) {
	buffer := make([]uint64, api.MaxBuffer+1)
	all, over := buffer[:api.MaxBuffer], buffer
	checkFits(t, all, rowsView(0, 0), true)
	checkFits(t, over, rowsView(0, 0), false)
	checkFits(t, over, rowsView(1, 1), false)
	checkFits(t, all, api.View{Rows: 1, Cols: 1, Offset: api.MaxBuffer - 1}, true)
	checkFits(t, all, api.View{Rows: 1, Cols: 1, Offset: api.MaxBuffer}, false)
	checkFits(t, all, api.View{Rows: 2, Cols: 1, RowStep: api.MaxBuffer - 1}, true)
	checkFits(t, all, api.View{Rows: 2, Cols: 1, RowStep: api.MaxBuffer}, false)
	checkFits(t, all, api.View{Rows: 1, Cols: 2, Offset: api.MaxBuffer - 1, ColStep: 1 - api.MaxBuffer}, true)
	checkFits(t, all, api.View{Rows: 1, Cols: 2, Offset: api.MaxBuffer - 1, ColStep: -api.MaxBuffer}, false)
	checkFits(t, all[:1600], rowsView(40, 40), true)
	checkFits(t, all[:1599], rowsView(40, 40), false)
	checkFits(t, all, rowsView(41, 40), false)
	checkFits(t, all, rowsView(40, 41), false)
	checkFits(t, nil, rowsView(1, 1), false)
	checkFits(t, nil, rowsView(0, 0), true)
}

func TestViewRandom(t *testing.T) {
	r := rand.New(rand.NewPCG(5, 2))
	buffer := make([]uint64, 60)
	far := []int{-1 << 63, -1 << 62, -1 << 32, -api.MaxBuffer, api.MaxBuffer, 1 << 31, 1 << 32, 1 << 58, 1 << 61, 1 << 62, 1<<63 - 1}
	near := func(n int) int {
		if r.IntN(20) == 0 {
			return far[r.IntN(len(far))] + r.IntN(5)
		}
		return r.IntN(2*n+1) - n
	}
	side := func() int { return []int{0, 1, 2, 3, 4, 5, 6, 40, 41, -1}[r.IntN(100)*r.IntN(100)/1000] }
	fitting := 0
	for range 60000 {
		part := buffer[:r.IntN(len(buffer)+1)]
		v := api.View{Rows: side(), Cols: side(), Offset: near(30) + 20, RowStep: near(12), ColStep: near(12)}
		want := fits(v, len(part))
		checkFits(t, part, v, want)
		if want && v.Rows > 1 && v.Cols > 1 {
			fitting++
		}
	}
	if fitting < 1000 {
		t.Errorf("only %d views of the random ones fit", fitting)
	}
}
