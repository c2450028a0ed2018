package rank_test

import (
	"math/big"
	"strings"
	"testing"

	"samphire/api"
	"samphire/nat"
	"samphire/rank"
	"samphire/rat"
)

// P10.1: Check

func checkCheck(t *testing.T, x api.Item, want api.Errno) {
	t.Helper()
	if got := rank.Check(x); got != want {
		t.Fatalf("Check of %s: %d, not %d", shown(x), got, want)
	}
}

func TestCheck(t *testing.T) {
	long := strings.Repeat("x", api.MaxKey)
	checkCheck(t, item("a", 3, 2), api.OK)
	checkCheck(t, item("", 0, 1), api.OK)
	checkCheck(t, item("", maxWord, maxWord), api.OK)
	checkCheck(t, item(long, 1, 1), api.OK)
	checkCheck(t, item(long+"x", 1, 1), api.ErrLong)
	checkCheck(t, item("a", 1, 0), api.ErrZero)
	checkCheck(t, item(long, 1, 0), api.ErrZero)
	checkCheck(t, api.Item{}, api.ErrZero)
}

// The Key's error is named first.
func TestCheckBothAtOnce(t *testing.T) {
	checkCheck(t, item(strings.Repeat("x", api.MaxKey+1), 1, 0), api.ErrLong)
}

// A Key's size is told in bytes, not in what they are read as.
func TestCheckCountsBytes(t *testing.T) {
	checkCheck(t, item(strings.Repeat("ü", 32), 1, 1), api.OK)
	checkCheck(t, item(strings.Repeat("ü", 33), 1, 1), api.ErrLong)
	checkCheck(t, item(strings.Repeat("\xff", 65), 1, 1), api.ErrLong)
}

func TestCheckOfAllSizes(t *testing.T) {
	for size := range 600 {
		for _, w := range []uint64{0, 1, 1 << 32, maxWord} {
			x := item(strings.Repeat("k", size), uint64(size), w)
			checkCheck(t, x, modelCheck(x))
		}
	}
}

func TestCheckOfEdges(t *testing.T) {
	for _, x := range pairs() {
		for _, key := range append(keys(), longKeys()...) {
			x.Key = key
			checkCheck(t, x, modelCheck(x))
		}
	}
	for _, x := range wrong() {
		if rank.Check(x) == api.OK {
			t.Errorf("%s may be", shown(x))
		}
	}
}

// P10.1: Cmp

func checkCmp(t *testing.T, a, b api.Item, want int) {
	t.Helper()
	if got := rank.Cmp(a, b); got != want {
		t.Fatalf("Cmp of %s: %d, not %d", shown(a, b), got, want)
	}
	if got := rank.Cmp(b, a); got != -want {
		t.Fatalf("Cmp of %s: %d, not %d", shown(b, a), got, -want)
	}
}

func TestCmp(t *testing.T) {
	// the chapter's example, whatever the Keys
	checkCmp(t, item("", 6, 3), item("", 5, 2), -1)
	checkCmp(t, item("z", 6, 3), item("a", 5, 2), -1)
	checkCmp(t, item("a", 6, 3), item("z", 5, 2), -1)

	checkCmp(t, item("a", 1, 1), item("a", 1, 1), 0)
	checkCmp(t, item("a", 2, 1), item("a", 1, 1), 1)
	checkCmp(t, item("a", 1, 2), item("a", 1, 1), -1)
}

func TestCmpOfEqualProducts(t *testing.T) {
	checkCmp(t, item("a", 1, 2), item("b", 2, 4), -1)
	checkCmp(t, item("a", 2, 4), item("b", 1, 2), -1)
	checkCmp(t, item("a", 1, 2), item("a", 2, 4), 0)
	checkCmp(t, item("b", 1<<63, 1<<62), item("a", 2, 1), 1)
	checkCmp(t, item("", maxWord, maxWord), item("", 1, 1), 0)
	checkCmp(t, item("", maxWord, maxWord), item("\x00", 1, 1), -1)
	// as ranks of 0 are: all of them
	checkCmp(t, item("a", 0, 1), item("a", 0, maxWord), 0)
	checkCmp(t, item("b", 0, 1), item("a", 0, maxWord), 1)
	checkCmp(t, item("b", 0, 1), item("a", 1, maxWord), -1)
}

func TestCmpOfGreatProducts(t *testing.T) {
	// of 64 bits alone these products would be 0 both, or the other one would be less
	checkCmp(t, item("b", 1<<32, 1), item("a", 1<<33, 1<<32), 1)
	checkCmp(t, item("a", 1<<32, 1), item("a", 1, 1<<32), 1)
	checkCmp(t, item("a", 1<<63, 1), item("b", 1, 2), 1)
	checkCmp(t, item("a", 1<<63, 2), item("b", 1, 1), 1)
	// apart by 1, within 128 bits
	checkCmp(t, item("b", maxWord-1, maxWord), item("a", maxWord, maxWord), -1)
	checkCmp(t, item("b", maxWord-2, maxWord-1), item("a", maxWord-1, maxWord), -1)
	checkCmp(t, item("b", maxWord, maxWord-1), item("a", maxWord-1, maxWord-2), -1)
	checkCmp(t, item("a", maxWord, 1), item("b", 1, maxWord), 1)
	checkCmp(t, item("b", 0, 1), item("a", maxWord, 1), -1)
}

func TestCmpOfKeys(t *testing.T) {
	for _, a := range keys() {
		for _, b := range keys() {
			checkCmp(t, item(a, 3, 2), item(b, 6, 4), modelKeys(a, b))
			checkCmp(t, item(a, 3, 2), item(b, 6, 5), 1)
			checkCmp(t, item(a, 3, 2), item(b, 7, 4), -1)
		}
	}
	checkCmp(t, item("a", 1, 1), item("ab", 1, 1), -1)
	checkCmp(t, item("", 1, 1), item("\x00", 1, 1), -1)
	checkCmp(t, item("\x7f", 1, 1), item("\x80", 1, 1), -1)
	checkCmp(t, item("b", 1, 1), item("ab", 1, 1), 1)
	checkCmp(t, item(strings.Repeat("x", 64), 1, 1), item(strings.Repeat("x", 63), 1, 1), 1)
}

// Each two of the edges, W of 0 among them.
func TestCmpOfEdges(t *testing.T) {
	all := pairs()
	for _, a := range all {
		for _, b := range all {
			order := product(a.U, b.W).Cmp(product(b.U, a.W))
			if a.Key, b.Key = "b", "a"; order == 0 {
				order = 1
			}
			checkCmp(t, a, b, order)
		}
	}
}

// That items may not be makes no difference.
func TestCmpOfWhatMayNotBe(t *testing.T) {
	// both products are 0, if U and W of one are 0, or both W
	checkCmp(t, item("b", 0, 0), item("a", 7, 2), 1)
	checkCmp(t, item("a", 7, 2), item("b", 0, 0), -1)
	checkCmp(t, item("a", 1, 0), item("b", 2, 0), -1)
	checkCmp(t, item("a", maxWord, 0), item("a", 1, 0), 0)
	checkCmp(t, api.Item{}, api.Item{}, 0)
	// else a W of 0 makes the product greater, or not less
	checkCmp(t, item("a", 1, 0), item("b", maxWord, 1), 1)
	checkCmp(t, item("a", maxWord, 0), item("b", 1, maxWord), 1)

	for _, a := range wrong() {
		for _, b := range append(wrong(), item("a", 2, 3), item(strings.Repeat("x", 64), 1, 1), item("", 0, 1)) {
			checkCmp(t, a, b, modelCmp(a, b))
		}
	}
}

func TestCmpOfLongKeys(t *testing.T) {
	all := append(longKeys(), keys()...)
	for _, a := range all {
		for _, b := range all {
			checkCmp(t, item(a, 1, 1), item(b, 1, 1), modelKeys(a, b))
		}
	}
	many := strings.Repeat("x", 1<<16)
	checkCmp(t, item(many+"a", 1, 1), item(many+"b", 1, 1), -1)
}

func TestCmpOfMany(t *testing.T) {
	m := mix(1)
	equal := 0
	for range 20000 {
		for _, two := range [][]api.Item{m.items(2, m.close), m.items(2, m.far)} {
			want := modelCmp(two[0], two[1])
			checkCmp(t, two[0], two[1], want)
			if want == 0 {
				equal++
			}
		}
	}
	if equal < 500 {
		t.Errorf("only %d are equal", equal)
	}
}

// P10.1: Rank

func checkRank(t *testing.T, x api.Item, want string, wantE api.Errno) {
	t.Helper()
	got, e := rank.Rank(x)
	if e != wantE || rat.Text(got) != want {
		t.Fatalf("Rank of %s: %v, %d, not %s, %d", shown(x), got, e, want, wantE)
	}
	if e != api.OK && (len(got.Num) != 0 || len(got.Den) != 0) {
		t.Fatalf("Rank of %s: %v beside %d", shown(x), got, e)
	}
}

func TestRank(t *testing.T) {
	checkRank(t, item("a", 6, 3), "2/1", api.OK)
	checkRank(t, item("", 5, 2), "5/2", api.OK)
	checkRank(t, item("a", 4, 6), "2/3", api.OK)
	checkRank(t, item("a", 0, 1), "0/1", api.OK)
	checkRank(t, item("a", 0, maxWord), "0/1", api.OK)
	checkRank(t, item("a", maxWord, maxWord), "1/1", api.OK)
	checkRank(t, item("a", maxWord, 1), "18446744073709551615/1", api.OK)
	checkRank(t, item("a", 1, maxWord), "1/18446744073709551615", api.OK)
	checkRank(t, item("a", maxWord-1, maxWord), "18446744073709551614/18446744073709551615", api.OK)
	checkRank(t, item(strings.Repeat("x", 64), 1<<63, 1<<62), "2/1", api.OK)
}

func TestRankOfWhatMayNotBe(t *testing.T) {
	long := strings.Repeat("x", 65)
	checkRank(t, item("a", 1, 0), "", api.ErrZero)
	checkRank(t, api.Item{}, "", api.ErrZero)
	checkRank(t, item(long, 1, 1), "", api.ErrLong)
	checkRank(t, item(long, 1, 0), "", api.ErrLong)
	for _, x := range wrong() {
		checkRank(t, x, "", modelCheck(x))
	}
}

func TestRankOfEdges(t *testing.T) {
	list := pairs()
	m := mix(2)
	for range 5000 {
		list = append(list, m.close(), m.far())
	}
	for _, x := range list {
		if x.W == 0 {
			checkRank(t, x, "", api.ErrZero)
			continue
		}
		checkRank(t, x, new(big.Rat).SetFrac(toBig(x.U), toBig(x.W)).String(), api.OK)
	}
}

// What is told once stays, whoever writes into it.
func TestRankIsNewMemory(t *testing.T) {
	x := item("a", 3<<40, 7)
	one, _ := rank.Rank(x)
	one.Num[0], one.Den[0] = 99, 99
	checkRank(t, x, nat.Text(nat.Of(3<<40))+"/7", api.OK)
}
