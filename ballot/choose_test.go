package ballot_test

import (
	"math"
	"math/rand"
	"slices"
	"testing"

	"weirkeep/ballot"
)

func toldSets(sets [][]ballot.Vote) []string {
	var words []string
	for _, set := range sets {
		words = append(words, toldAll(set))
	}
	return words
}

func wantChoose(t *testing.T, sets [][]ballot.Vote, slot int, want ballot.Vote) {
	t.Helper()
	if got, ok := ballot.Choose(sets, slot); got != want || !ok {
		t.Errorf("Choose(%v, %d): %s, %t, want %s", toldSets(sets), slot, told(got), ok, told(want))
	}
}

func wantNoChoose(t *testing.T, sets [][]ballot.Vote, slot int) {
	t.Helper()
	if got, ok := ballot.Choose(sets, slot); got != (ballot.Vote{}) || ok {
		t.Errorf("Choose(%v, %d): %s, %t, want none", toldSets(sets), slot, told(got), ok)
	}
}

// P10.4: of no sets, of empty ones, of sets without a vote of that slot, there is none.
func TestChooseNone(t *testing.T) {
	a, b := vote(3, 7, "a"), vote(5, 9, "b")
	for _, sets := range [][][]ballot.Vote{nil, {}, {nil}, {{}, nil, {}}, {{a}}, {{}, {a, b}, nil, {b}}} {
		for _, slot := range []int{0, 1, 4, 6, 4095, 4096, -1, -3, 3 + 1<<32, math.MinInt, math.MaxInt} {
			wantNoChoose(t, sets, slot)
		}
	}
}

// P10.4: the highest ballot in the first set, in a middle one, in the last one, and anywhere in it; of equal ones the first.
func TestChoose(t *testing.T) {
	low, mid, high := vote(3, 5, "low"), vote(3, 6, "mid"), vote(3, 9, "high")
	same, elsewhere := vote(3, 9, "same"), vote(4, 100, "elsewhere")
	for _, sets := range [][][]ballot.Vote{
		{{high}},
		{{high}, {mid}, {low}},
		{{low}, {high}, {mid}},
		{{low}, {mid}, {high}},
		{{mid}, {low}, {high}},
		{{high, low}, {mid}},
		{{low, high, mid}, {mid}},
		{nil, {low, mid}, {mid, low, high}},
		{{elsewhere}, {elsewhere, low}, {high, elsewhere}, {}},
		{{high}, {same}},
		{{high, same}},
		{{low, high}, {same, elsewhere}, {same}},
		{{mid}, {high, same, mid}, {same}},
		{{high}, {high}},
	} {
		wantChoose(t, sets, 3, high)
	}
	wantChoose(t, [][]ballot.Vote{{same}, {high}}, 3, same)
	wantChoose(t, [][]ballot.Vote{{high, elsewhere}}, 4, elsewhere)
	wantChoose(t, [][]ballot.Vote{{vote(0, 3, "a"), vote(1, 9, "b")}, {vote(0, 5, "c")}, {vote(0, 5, "d")}}, 0, vote(0, 5, "c"))
	wantChoose(t, [][]ballot.Vote{{vote(0, 1, "")}, {vote(1, 1<<40, "")}}, 0, vote(0, 1, ""))
	wantChoose(t, [][]ballot.Vote{{vote(4095, 1<<40-1, "")}, {vote(4095, 1<<40, "z")}}, 4095, vote(4095, 1<<40, "z"))
}

// R1: votes that no acceptor has count as they are.
func TestChooseWhatever(t *testing.T) {
	wantChoose(t, [][]ballot.Vote{{vote(0, 0, "")}}, 0, vote(0, 0, ""))
	wantChoose(t, [][]ballot.Vote{{vote(0, 0, "a"), vote(0, 0, "b")}}, 0, vote(0, 0, "a"))
	wantChoose(t, [][]ballot.Vote{{vote(0, -5, "a")}, {vote(0, -3, "b"), vote(0, -3, "c")}}, 0, vote(0, -3, "b"))
	wantChoose(t, [][]ballot.Vote{{vote(-7, math.MinInt, "a")}}, -7, vote(-7, math.MinInt, "a"))
	wantChoose(t, [][]ballot.Vote{{vote(-7, math.MinInt, "a"), vote(-7, math.MaxInt, long(3000))}}, -7, vote(-7, math.MaxInt, long(3000)))
	wantChoose(t, [][]ballot.Vote{{vote(math.MaxInt, 2, "a")}, {vote(math.MaxInt, 1<<40+1, "b")}}, math.MaxInt, vote(math.MaxInt, 1<<40+1, "b"))
}

// P10.4, R3: sets of all kinds, held against a list of all their votes, put in order; they stay as they are, and what lies behind their ends too.
func TestChooseRandom(t *testing.T) {
	random := rand.New(rand.NewSource(10))
	found := 0
	for range 20000 {
		var sets [][]ballot.Vote
		var all []ballot.Vote
		slot := random.Intn(4)
		for range random.Intn(5) {
			set := make([]ballot.Vote, 5)
			for i := range set {
				set[i] = vote(random.Intn(4), random.Intn(6), long(random.Intn(100)))
			}
			set = set[:random.Intn(6)]
			sets = append(sets, set)
			for _, v := range set {
				if v.Slot == slot {
					all = append(all, v)
				}
			}
		}
		var before [][]ballot.Vote
		for _, set := range sets {
			before = append(before, slices.Clone(set[:cap(set)]))
		}
		slices.SortStableFunc(all, func(v, w ballot.Vote) int { return w.Ballot - v.Ballot })
		if len(all) > 0 {
			wantChoose(t, sets, slot, all[0])
			found++
		} else {
			wantNoChoose(t, sets, slot)
		}
		for i, set := range sets {
			if !slices.Equal(set[:cap(set)], before[i]) {
				t.Fatalf("set %d is %s, was %s", i, toldAll(set[:cap(set)]), toldAll(before[i]))
			}
		}
	}
	if found < 5000 || found > 19000 {
		t.Errorf("%d of 20000 have one: they are too much alike", found)
	}
}
