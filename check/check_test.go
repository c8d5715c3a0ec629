package check_test

import (
	"math/rand"
	"slices"
	"strings"
	"testing"

	"tierce/api"
	"tierce/check"
	"tierce/disc"
	"tierce/leaf"
	"tierce/mains"
	"tierce/maps"
	"tierce/pool"
)

// P21.1: what Look and Dump answer.

func TestANewPool(t *testing.T) {
	for _, c := range []struct {
		slots       [2]int
		size, pages int
	}{{[2]int{1, 1}, 1, 64}, {[2]int{10, 5}, 2, 70}, {[2]int{256, 256}, 8, 512}, {[2]int{256, 1}, 3, 512}, {[2]int{1, 256}, 8, 64}} {
		r, _ := formatted(t, c.slots, c.size, c.pages)
		r.must(t, check.Report{Head: api.Head{Gen: 1, Slots: c.slots, Chunk: c.size}})
	}
}

// The volumes and chunks of a pool, told by hand.
func TestAPool(t *testing.T) {
	r, p := formatted(t, [2]int{10, 5}, 2, 64)
	ok(t, p.Create(7, 3), p.Create(2, 0), p.Create(9, 1), p.Flush())
	h := api.Head{Gen: 2, Root: 1, Slots: [2]int{10, 5}, Chunk: 2}
	r.must(t, check.Report{Head: h, Vols: 3, Pages: 1, Leads: 1}, "", zeros(6), zeros(2))

	ok(t, p.Write(7, 1, secs("abc")), p.Write(9, 1, secs("d")), p.Flush())
	report, _, _ := r.looks(t)
	h.Gen, h.Root = 3, report.Head.Root
	r.must(t, check.Report{Head: h, Vols: 3, Chunks: 3, Places: 3, Pages: 3, Leads: 3, Used: [2]int{3, 0}, Most: 1, Owners: 1}, "", zeros(1)+secs("abc")+zeros(2), zeros(1)+secs("d"))

	ok(t, p.Snap(7, 1), p.Snap(1, 16), p.Discard(1, 0, 2), p.Flush())
	report, _, _ = r.looks(t)
	h.Gen, h.Root = 4, report.Head.Root
	r.must(t, check.Report{Head: h, Vols: 5, Chunks: 3, Places: 6, Pages: 4, Leads: 5, Used: [2]int{3, 0}, Most: 2, Owners: 3},
		zeros(2)+secs("bc")+zeros(2), "", zeros(1)+secs("abc")+zeros(2), zeros(1)+secs("d"), zeros(1)+secs("abc")+zeros(2))
}

// Chunks on both tiers: each is read where it is.
func TestBothTiers(t *testing.T) {
	r, p := formatted(t, [2]int{6, 3}, 1, 64)
	ok(t, p.Create(1, 3), p.Write(1, 0, secs("ab")), p.Write(1, 2, secs("c")), p.Create(2, 1), p.Write(2, 0, secs("d")), p.Pin(1, true))
	for range 8 {
		ok(t, p.Tick(0))
	}
	ok(t, p.Flush())
	report, _, _ := r.looks(t)
	if report.Used != [2]int{2, 2} || report.Chunks != 4 {
		t.Fatal(report)
	}
	want, texts := r.told(t)
	r.must(t, want, texts...)
	if !slices.Equal(texts, []string{secs("abc"), secs("d")}) {
		t.Fatal(texts)
	}
}

// What a tier's slots are, of devices that have more room than the head tells.
func TestDevicesOfMoreRoom(t *testing.T) {
	r, p := formatted(t, [2]int{4, 3}, 2, 64)
	ok(t, p.Create(1, 2), p.Write(1, 0, secs("abcd")), p.Flush())
	want, texts := r.told(t)
	wide := &rig{r.power, disc.Of(r.power, r.slow.Image()+zeros(9)), disc.Of(r.power, r.fast.Image()+zeros(1)), disc.Of(r.power, r.meta.Image()+zeros(100))}
	wide.must(t, want, texts...)
	less := &rig{r.power, disc.Of(r.power, r.slow.Image()[16:]), r.fast, r.meta}
	less.mustNot(t, api.ErrForm)
	less = &rig{r.power, r.slow, disc.Of(r.power, r.fast.Image()[16:]), r.meta}
	less.mustNot(t, api.ErrForm)
}

// All volumes that there may be, as great as they may be.
func TestGreatVolumes(t *testing.T) {
	r, p := formatted(t, [2]int{256, 256}, 8, 512)
	var rows [16][]byte
	for id := 1; id <= 16; id++ {
		ok(t, p.Create(id, 64))
		rows[id-1] = []byte(zeros(512))
		for at := 0; at < 512; at += 16 {
			s := secs(strings.Repeat(string([]byte{byte(id)}), 8) + strings.Repeat(string([]byte{byte(100 + at/16)}), 7))
			if id <= 15 {
				ok(t, p.Write(id, at, s[:8*16]))
				copy(rows[id-1][at*16:], s[:8*16])
			}
		}
	}
	ok(t, p.Flush())
	want, texts := r.told(t)
	if want.Chunks != 480 || want.Places != 480 || want.Vols != 16 || want.Used != [2]int{255, 225} || want.Most != 1 || want.Owners != 1 {
		t.Fatal(want)
	}
	for i, row := range rows {
		if texts[i] != string(row) {
			t.Fatal(i)
		}
	}
	r.must(t, want, texts...)
}

// A chunk may stand at all places of all volumes.
func TestOneChunkEverywhere(t *testing.T) {
	y := tallied(t, [2]int{3, 2}, 64)
	var all [64]int
	for i := range all {
		all[i] = 1023
	}
	root := y.chart(all[:]...)
	var texts []string
	for id := 1; id <= 16; id++ {
		y.volume(api.Volume{Id: id, Size: 64, Root: root, From: id})
		texts = append(texts, secs(strings.Repeat("b", 128)))
	}
	y.spot(1023, 1, 1)
	r := y.commit()
	report, _, _ := r.looks(t)
	pages := report.Pages
	want, _ := r.told(t)
	if want.Pages != pages || want.Leads != pages+15 || want.Places != 1024 || want.Most != 1023 || want.Owners != 1024 || want.Used != [2]int{0, 1} || want.Chunks != 1 {
		t.Fatal(want)
	}
	r.must(t, want, texts...)
}

// Of chunks with as many owners the lowest one, wherever they stand.
func TestTheChunkOfMostOwners(t *testing.T) {
	for _, c := range []struct {
		one, two     []int
		most, owners int
	}{
		{[]int{9, 5, 7}, nil, 5, 1},
		{[]int{9, 5, 7}, []int{9}, 9, 2},
		{[]int{9, 5, 7}, []int{0, 7, 0, 9}, 7, 2},
		{[]int{9, 9, 5, 7}, []int{5, 7}, 5, 2},
		{[]int{9, 9, 9, 5, 7}, []int{5, 7}, 9, 3},
		{[]int{5, 9, 9, 9, 5, 7}, []int{7, 5}, 5, 3},
		{[]int{7, 9, 5}, []int{7, 9, 5}, 5, 2},
	} {
		y := tallied(t, [2]int{5, 5}, 64)
		one, two := y.chart(c.one...), y.chart(c.two...)
		y.volume(api.Volume{Id: 3, Size: len(c.one), Root: one})
		y.volume(api.Volume{Id: 4, Size: len(c.two), Root: two})
		y.spot(5, 0, 4)
		y.spot(7, 1, 3)
		y.spot(9, 1, 0)
		r := y.commit()
		want, texts := r.told(t)
		if want.Most != c.most || want.Owners != c.owners || want.Used != [2]int{1, 2} {
			t.Errorf("%+v: %+v", c, want)
		}
		r.must(t, want, texts...)
	}
}

// Trees that share nodes: each page is one, however many need it, and each root and each pair leads there.
func TestLeads(t *testing.T) {
	y := tallied(t, [2]int{5, 5}, 64)
	low := y.add(api.Leaf{List: []api.Pair{{Key: 0, Val: 1}, {Key: 1, Val: 2}}})
	high := y.add(api.Leaf{List: []api.Pair{{Key: 8, Val: 3}}})
	other := y.add(api.Leaf{List: []api.Pair{{Key: 8, Val: 2}, {Key: 9, Val: 2}}})
	one := y.add(api.Leaf{Level: 1, List: []api.Pair{{Key: 0, Val: uint64(low)}, {Key: 8, Val: uint64(high)}}})
	two := y.add(api.Leaf{Level: 1, List: []api.Pair{{Key: 0, Val: uint64(low)}, {Key: 8, Val: uint64(other)}}})
	y.volume(api.Volume{Id: 1, Size: 10, Root: one})
	y.volume(api.Volume{Id: 2, Size: 10, Root: two})
	y.volume(api.Volume{Id: 3, Size: 2, Root: low})
	y.volume(api.Volume{Id: 5, Size: 64, Root: one})
	y.volume(api.Volume{Id: 6, Size: 64})
	y.spot(1, 0, 1)
	y.spot(2, 0, 3)
	y.spot(3, 1, 2)
	r := y.commit()
	head := y.store.Head()
	first := secs("BBDD") + zeros(12) + secs("cc") + zeros(2)
	second := secs("BBDD") + zeros(12) + secs("DDDD")
	// low: by two nodes and a volume; one: by two volumes; high, other, two and the root: once each
	r.must(t, check.Report{Head: head, Vols: 5, Chunks: 3, Places: 3 + 4 + 2 + 3, Pages: 6, Leads: 9, Used: [2]int{2, 1}, Most: 2, Owners: 6},
		first, second, secs("BBDD"), first+zeros(108), zeros(128))
}

// A root's tree of several levels.
func TestATreeOfManyPlaces(t *testing.T) {
	y := tallied(t, [2]int{100, 30}, 64)
	var one, two []int
	for i := range 50 {
		one, two = append(one, 1+i), append(two, 51+i)
	}
	first, second := y.chart(one...), y.chart(two...)
	y.volume(api.Volume{Id: 15, Size: 50, Root: first})
	y.volume(api.Volume{Id: 16, Size: 64, Root: second, From: 15, Pinned: true})
	for i := range 100 {
		y.spot(1+i, i%4/3, i/4+25*(i%4%3))
	}
	r := y.commit()
	want, texts := r.told(t)
	if want.Chunks != 100 || want.Used != [2]int{75, 25} || want.Pages < 7+1+4+4 {
		t.Fatal(want)
	}
	r.must(t, want, texts...)
}

// Pages that no tree needs play no part, nor does the other head.
func TestPagesOfNoTree(t *testing.T) {
	r, p := formatted(t, [2]int{10, 5}, 2, 64)
	ok(t, p.Create(1, 40))
	for i := range 8 {
		ok(t, p.Write(1, 2*i, secs("ab")), p.Flush())
	}
	ok(t, p.Resize(1, 1), p.Flush())
	report, _, _ := r.looks(t)
	r.must(t, check.Report{Head: api.Head{Gen: 10, Root: report.Head.Root, Slots: [2]int{10, 5}, Chunk: 2}, Vols: 1, Chunks: 1, Places: 1, Pages: 2, Leads: 2, Used: [2]int{1, 0}, Most: 1, Owners: 1}, secs("ab"))
}

// What isn't committed isn't told; what a committed chunk has now is.
func TestWhatIsNotCommitted(t *testing.T) {
	r, p := formatted(t, [2]int{10, 5}, 2, 64)
	ok(t, p.Create(1, 4), p.Write(1, 0, secs("ab")), p.Flush())
	was, _, _ := r.looks(t)
	ok(t, p.Create(2, 1), p.Write(1, 1, secs("cd")), p.Resize(1, 3), p.Pin(1, true))
	r.must(t, was, secs("ac")+zeros(6))
	r.lost(t, "")
	r.must(t, was, secs("ab")+zeros(6))
}

// Pools of any calls, looked at now and then, and with the power away in between.
func TestAnyPools(t *testing.T) {
	chance := rand.New(rand.NewSource(211))
	most := 0
	for range 60 {
		size := 1 + chance.Intn(3)
		r, p := formatted(t, [2]int{20 + chance.Intn(30), 1 + chance.Intn(20)}, size, 64+chance.Intn(60))
		for range 25 {
			for range chance.Intn(30) {
				some(chance, p, size)
			}
			if chance.Intn(2) == 0 {
				p.Flush()
			}
			want, texts := r.told(t)
			r.must(t, want, texts...)
			most = max(most, want.Pages)
			if chance.Intn(4) == 0 {
				r.power.Fuse(chance.Intn(40))
				for range 6 {
					some(chance, p, size)
				}
				r.lost(t, string([]byte{byte(chance.Int()), byte(chance.Int())}))
				var e api.Errno
				p, e = pool.Open(r.slow, r.fast, r.meta)
				ok(t, e)
			}
		}
	}
	if most < 12 {
		t.Error(most)
	}
}

// What a pool reads, Dump tells, once it was flushed.
func TestDumpIsWhatAPoolReads(t *testing.T) {
	chance := rand.New(rand.NewSource(212))
	for range 40 {
		size := 1 + chance.Intn(8)
		r, p := formatted(t, [2]int{30, 10}, size, 80)
		for range 40 {
			some(chance, p, size)
		}
		ok(t, p.Flush())
		var want []string
		for _, v := range p.Volumes() {
			row := ""
			for at := range v.Size * size {
				s, e := p.Read(v.Id, at, 1)
				ok(t, e)
				row += s
			}
			want = append(want, row)
		}
		_, list, e := r.looks(t)
		if e != api.OK || !slices.Equal(list, want) {
			t.Fatalf("%q; want %q", list, want)
		}
	}
}

// P21.1: errors are Open's.

func TestNoDevices(t *testing.T) {
	r, _ := formatted(t, [2]int{2, 2}, 1, 64)
	for _, bad := range []*rig{
		{r.power, nil, r.fast, r.meta}, {r.power, r.slow, nil, r.meta}, {r.power, r.slow, r.fast, nil}, {power: r.power},
		{r.power, nil, nil, r.meta}, {r.power, nil, r.fast, r.slow}, {r.power, r.slow, nil, disc.New(nil, 0)},
	} {
		bad.mustNot(t, api.ErrNil)
	}
	r.power.Cut()
	bad := &rig{r.power, r.slow, nil, r.meta}
	bad.mustNot(t, api.ErrNil)
}

func TestNoPower(t *testing.T) {
	r, p := formatted(t, [2]int{4, 2}, 1, 64)
	ok(t, p.Create(1, 2), p.Write(1, 0, secs("x")), p.Flush())
	was, texts := r.told(t)
	r.power.Cut()
	r.mustNot(t, api.ErrDown)
	r.power.Come()
	r.must(t, was, texts...)
	// No call uses the power, so that a fuse stays whole.
	r.power.Fuse(0)
	r.must(t, was, texts...)
	r.power.Come()

	// The meta device has its power alone.
	for _, away := range []int{0, 1} {
		own := mains.New()
		parted := &rig{r.power, disc.Of(own, r.slow.Image()), r.fast, r.meta}
		if away == 1 {
			parted = &rig{r.power, r.slow, disc.Of(own, r.fast.Image()), r.meta}
		}
		parted.must(t, was, texts...)
	}
}

// The tiers' power is away, and the meta device's isn't: Open asks the tiers nothing, so Look tells all; what must be read there is ErrDown.
func TestNoPowerOfATier(t *testing.T) {
	r, p := formatted(t, [2]int{4, 2}, 1, 64)
	ok(t, p.Create(1, 2), p.Create(2, 2), p.Flush())
	was, texts := r.told(t)
	own := mains.New()
	parted := &rig{r.power, disc.Of(own, r.slow.Image()), r.fast, r.meta}
	own.Cut()
	parted.must(t, was, texts...) // no chunk is read
	ok(t, p.Write(2, 0, secs("x")), p.Flush())
	was, _ = r.told(t)
	report, e := check.Look(parted.slow, parted.fast, parted.meta)
	if e != api.OK || report != was {
		t.Error(report, e)
	}
	if list, e := check.Dump(parted.slow, parted.fast, parted.meta); e != api.ErrDown || len(list) != 0 {
		t.Error(list, e)
	}
}

func TestNoPools(t *testing.T) {
	r, p := formatted(t, [2]int{4, 2}, 2, 64)
	ok(t, p.Create(1, 2), p.Write(1, 0, secs("x")), p.Flush())
	for _, bad := range []*rig{
		{r.power, r.fast, r.fast, r.meta}, {r.power, r.slow, disc.New(r.power, 3), r.meta}, {r.power, r.slow, r.fast, r.slow},
		{r.power, r.slow, r.fast, disc.New(r.power, 0)}, {r.power, r.slow, r.fast, disc.New(r.power, 31)}, {r.power, r.slow, r.fast, disc.New(r.power, 1024)},
		{r.power, r.meta, r.slow, r.fast},
	} {
		bad.mustNot(t, api.ErrForm)
	}
	// Where the tiers change their places, each chunk's bytes are read there.
	ok(t, p.Tick(0))
	same := devices(8, 8, 64)
	q, e := pool.Format(same.slow, same.fast, same.meta, 2)
	ok(t, e, q.Create(1, 1), q.Write(1, 0, secs("xy")), q.Flush(), same.fast.Write(0, secs("uv")))
	turned := &rig{same.power, same.fast, same.slow, same.meta}
	want, texts := turned.told(t)
	turned.must(t, want, texts...)
	if texts[0] != secs("uv") {
		t.Error(texts)
	}
}

// Devices whose trees are sound, and that have no pool for all that.
func TestTalliesThatAreNot(t *testing.T) {
	for i, make := range []func(y *tally){
		func(y *tally) { y.volume(api.Volume{Id: 1, Size: 2, Root: y.chart(1)}) },                        // no place of the chunk
		func(y *tally) { y.volume(api.Volume{Id: 1, Size: 2}); y.spot(1, 0, 0) },                         // a chunk that stands nowhere
		func(y *tally) { y.volume(api.Volume{Id: 1, Size: 2, Root: y.chart(0, 0, 1)}); y.spot(1, 0, 0) }, // beyond the volume's end
		func(y *tally) { y.volume(api.Volume{Id: 1, Size: 2, Root: y.chart(1)}); y.spot(1, 0, 5) },       // no such slot
		func(y *tally) { y.volume(api.Volume{Id: 1, Size: 2, Root: y.chart(1)}); y.spot(1, 1, 3) },       // no such slot
		func(y *tally) { y.volume(api.Volume{Id: 1, Size: 2, Root: 60}) },                                // no map
		func(y *tally) { y.volume(api.Volume{Id: 1, Size: 2, Root: 511}) },                               // no page
		func(y *tally) { y.pairs = append(y.pairs, api.Pair{Key: 5, Val: 5}) },                           // a pair of no kind
		func(y *tally) { y.pairs = append(y.pairs, api.Pair{Key: 1<<32 + 17}) },                          // no volume
		func(y *tally) { y.pairs = append(y.pairs, api.Pair{Key: 1<<33 + 1024}) },                        // no chunk
		func(y *tally) {
			y.volume(api.Volume{Id: 1, Size: 2, Root: y.chart(1, 2)})
			y.spot(1, 0, 2)
			y.spot(2, 0, 2)
		}, // one slot of two
	} {
		y := tallied(t, [2]int{5, 3}, 64)
		make(y)
		r := y.commit()
		if _, _, e := r.looks(t); e != api.ErrForm {
			t.Errorf("%d: %d", i, e)
		}
	}
}

// P21.2: what Look takes Open takes; nothing is changed (looks holds both at each call).

// Each byte of all pages that are used is turned: what is told then hangs together.
func TestTurnedBytes(t *testing.T) {
	r, p := formatted(t, [2]int{10, 5}, 1, 64)
	ok(t, p.Create(1, 20), p.Write(1, 0, secs("ab")), p.Flush(), p.Snap(1, 2), p.Write(2, 4, secs("c")), p.Flush())
	image := r.meta.Image()
	count := map[api.Errno]int{}
	used := 12 * 256
	if strings.Trim(image[used:], "\x00") != "" {
		t.Fatal("more pages are used")
	}
	for at := range used {
		if at >= 32 && at < 256 {
			continue
		}
		for _, by := range []byte{1, 0x80} {
			turned := []byte(image)
			turned[at] ^= by
			bad := &rig{r.power, r.slow, r.fast, disc.Of(r.power, string(turned))}
			_, _, e := bad.looks(t)
			count[e]++
			if e == api.OK {
				want, texts := bad.told(t)
				bad.must(t, want, texts...)
			}
		}
	}
	if len(count) != 2 || count[api.OK] < 100 || count[api.ErrForm] < 100 {
		t.Error(count)
	}
}

// Nodes and heads of any kind that are sealed as they should be.
func TestAnyTallies(t *testing.T) {
	chance := rand.New(rand.NewSource(213))
	count := map[api.Errno]int{}
	for range 4000 {
		y := tallied(t, [2]int{6, 4}, 64)
		var roots []int
		for range 1 + chance.Intn(3) {
			var chunks []int
			for range chance.Intn(5) {
				chunks = append(chunks, chance.Intn(4))
			}
			roots = append(roots, y.chart(chunks...))
		}
		for id := 1; id <= 4; id++ {
			if chance.Intn(2) == 0 {
				y.volume(api.Volume{Id: id, Size: 3 + chance.Intn(3), Root: roots[chance.Intn(len(roots))], Pinned: chance.Intn(2) == 0, From: chance.Intn(17)})
			}
		}
		for chunk := 1; chunk <= 3; chunk++ {
			if chance.Intn(6) != 0 {
				y.spot(chunk, chance.Intn(2), chance.Intn(4))
			}
		}
		r := y.commit()
		_, _, e := r.looks(t)
		count[e]++
		if e == api.OK {
			want, texts := r.told(t)
			r.must(t, want, texts...)
		}
	}
	if len(count) != 2 || count[api.OK] < 150 || count[api.ErrForm] < 150 {
		t.Error(count)
	}
}

// Bytes of any kind.
func TestAnyBytes(t *testing.T) {
	chance := rand.New(rand.NewSource(214))
	m := mains.New()
	for range 300 {
		var list [3]*disc.Disc
		for i := range list {
			s := make([]byte, 16*chance.Intn(200))
			for j := range s {
				s[j] = byte(chance.Int() >> chance.Intn(8))
			}
			list[i] = disc.Of(m, string(s))
		}
		r := &rig{m, list[0], list[1], list[2]}
		r.mustNot(t, api.ErrForm)
	}
}

// One device that is given more than once.
func TestOneDeviceThrice(t *testing.T) {
	m := mains.New()
	d := disc.New(m, 1024)
	r := &rig{m, d, d, d}
	r.mustNot(t, api.ErrForm)
	p, e := pool.Format(d, d, d, 8)
	ok(t, e, p.Create(1, 1), p.Flush())
	r.must(t, check.Report{Head: api.Head{Gen: 2, Root: 1, Slots: [2]int{128, 128}, Chunk: 8}, Vols: 1, Pages: 1, Leads: 1}, zeros(8))
}

// Answers are new memory, and nothing is kept from call to call.
func TestTheMemoryOfAnswers(t *testing.T) {
	r, p := formatted(t, [2]int{10, 5}, 2, 64)
	ok(t, p.Create(1, 1), p.Write(1, 0, secs("a")), p.Snap(1, 2), p.Flush())
	want, texts := r.told(t)
	_, list, _ := r.looks(t)
	clear(list[:cap(list)])
	r.must(t, want, texts...)
	// The pool goes on as if nobody had looked.
	ok(t, p.Write(2, 1, secs("b")), p.Flush())
	want, texts = r.told(t)
	r.must(t, want, texts...)
	if !slices.Equal(texts, []string{secs("a\x00"), secs("ab")}) {
		t.Error(texts)
	}
}

// The helpers' maps are layer 12's.
func TestCharts(t *testing.T) {
	y := tallied(t, [2]int{5, 5}, 64)
	root := y.chart(0, 4, 0, 2)
	list, e := maps.List(y.store, root)
	if e != api.OK || !slices.Equal(list, []maps.Entry{{At: 1, Chunk: 4}, {At: 3, Chunk: 2}}) {
		t.Error(list, e)
	}
	if leaf.Most != 15 {
		t.Error(leaf.Most)
	}
}
