package quorum_test

import (
	"math/rand"
	"testing"
)

// tryLoss holds a Propose of which that is lost against the plain one, with one ahead of it by another node, and what follows in each way.
func tryLoss(t *testing.T, n int, loss uint64, ways ...int) {
	t.Helper()
	for _, way := range ways {
		h := newHeld(t, n)
		before := loss>>3 ^ loss<<2 // any: what it leaves behind differs
		if way%2 == 1 {
			h.propose((way+1)%n, "before", before)
		}
		h.propose(way%n, "a", loss)
		h.wantSame()
		h.follow(way)
		h.wantFollows()
	}
}

// P11.2: all that may be lost of one, two and three nodes.
func TestEachLoss(t *testing.T) {
	for n := 1; n <= 3; n++ {
		for loss := range uint64(1) << (4 * n) {
			tryLoss(t, n, loss, 0, 1+int(loss/5%17))
		}
	}
}

// P11.2: each bit of four and of five nodes by itself, each two bits; and others.
func TestLossOfMany(t *testing.T) {
	random := rand.New(rand.NewSource(11))
	for n := 4; n <= 5; n++ {
		for i := range 4 * n {
			tryLoss(t, n, 1<<i, 0, 1, 2, 3, 4)
			for j := range i {
				tryLoss(t, n, 1<<i|1<<j, 0, i+j)
				tryLoss(t, n, 1<<i|1<<j|1<<((i+8)%(4*n)), i)
			}
		}
		for range 1000 {
			tryLoss(t, n, random.Uint64()&random.Uint64(), random.Intn(40))
			tryLoss(t, n, random.Uint64(), random.Intn(40))
		}
	}
}

// P11.2: bits above those of the nodes say nothing, whatever is lost of these.
func TestLossAbove(t *testing.T) {
	random := rand.New(rand.NewSource(12))
	for n := 1; n <= 5; n++ {
		for range 300 {
			loss := random.Uint64() & random.Uint64()
			one, two := newHeld(t, n), newHeld(t, n)
			for i := range 6 {
				node := random.Intn(n)
				e := one.propose(node, long(i), loss)
				if f := two.propose(node, long(i), loss&(1<<(4*n)-1)); f != e {
					t.Fatalf("%#x: %d, without the bits above %d", loss, e, f)
				}
			}
			one.wantSame()
			two.wantSame()
			wantLogs(t, one.group, two.plain.logs...)
		}
	}
}
