package script_test

import (
	"slices"
	"strings"
	"testing"

	"corvee/api"
	"corvee/script"
)

const (
	head   = "node n1 2,2,0,0 main\nwork 3\n"
	submit = "ask 1 submit user=ana part=main nodes=1 demand=1,0,0,0 wall=5"
)

func text(lines ...string) string {
	return strings.Join(lines, "\n") + "\n"
}

// tells asks what a script's lines are.
func tells(t *testing.T, s string, want ...string) {
	t.Helper()
	got, e, at := script.Run(s)
	if !slices.Equal(got, want) || e != api.OK || at != 0 {
		t.Errorf("%s\n%q %v %d", s, got, e, at)
	}
}

// fails asks that a script is refused at a line.
func fails(t *testing.T, s string, at int) {
	t.Helper()
	if got, e, n := script.Run(s); got != nil || e != api.ErrScript || n != at {
		t.Errorf("%q: %q %v %d", s, got, e, n)
	}
}

// P23.1

func TestLimit(t *testing.T) {
	long := "#" + strings.Repeat("x", api.MaxDisk)
	if got, e, at := script.Run(long); got != nil || e != api.ErrLimit || at != 0 {
		t.Error(got, e, at)
	}
	if got, e, at := script.Run("x" + long); got != nil || e != api.ErrLimit || at != 0 {
		t.Error(got, e, at)
	}
	tells(t, long[:api.MaxDisk])
	fails(t, "x"+long[2:], 1)
}

func TestLinesThatMayNotBe(t *testing.T) {
	for _, line := range []string{
		" ", "x", "Tick 1", "tick", "tick ", "tick  1", "tick 1 ", " tick 1", "tick 1 2", "tick x", "tick 01", "tick +1", "tick -0", "tick --1", "tick -", "tick 12345678901234", "tick -12345678901234", "tick 1.5", "tick\t1", "tick 1\r", "tick ١",
		"calm", "calm x", "cut", "cut 1 1", "deliver", "deliver n1", "drop", "double", "spoil 1", "spoil 1 x", "spoil 1 1 1",
		"boot", "boot 1", "boot control", "boot control x", "boot control 0 0", "boot node", "boot node n9", "boot node 0", "boot node N1", "boot node n1 n1", "boot client 1", "crash client 1", "boot n1", "crash control n1", "crash node", "step", "step client", "step client x", "step node n2", "step net 1",
		"ask", "ask 1", "ask x submit", "ask 1 submit", "ask 1 submit ", "ask 1 what", "ask 1 cancel", "ask 1 cancel x", "ask 1 cancel 1 2", "ask 1 hold", "ask 1 release n1", "ask 1 drain", "ask 1 drain n9", "ask 1 drain 0", "ask 1 fill n1 n1",
		"ask submit user=ana part=main nodes=1 demand=1,0,0,0 wall=5", submit + " ", submit + " x=1", submit + " +", submit + " + ", "ask 1 submit + user=ana", submit + " + user=ana", strings.Replace(submit, "submit ", "submit  ", 1), strings.Replace(submit, "wall=5", "wall=0", 1),
		submit + strings.Repeat(" + user=ana part=main nodes=1 demand=1,0,0,0 wall=5", 8),
		"show", "show what", "show now 1", "show packets x", "show claim 1", "show jobs 1", "show heard", "show heard x", "show heard 1 1", "show run", "show run n9", "show run n1 n1", "show run 0",
		"node", "node ", "node  n2 1,0,0,0 main", "node #n2 1,0,0,0 main", "node # n2 1,0,0,0 main", "node n2", "node n2 1,0,0,0", "node n1 1,0,0,0 main", "node n2 1,0,0 main", "node n2 1,0,0,0 main ", "node n2 1,0,0,0 main main", "node n2 1,0,0,0 a b c d e f g h i",
		"work 1", "room", "room x", "room 1 2", "nodes n2 1,0,0,0 main",
	} {
		fails(t, head+line, 3)
		fails(t, head+"# a remark\n\n"+line+"\nbad", 5)
	}
}

func TestHeadLines(t *testing.T) {
	fails(t, "work", 1)
	fails(t, "work ", 1)
	fails(t, "work 1 x", 1)
	fails(t, "work 1\nwork 2", 2)
	fails(t, "room 1\n\nroom 1", 3)
	fails(t, head+"tick 1\nroom 5", 4)
	fails(t, head+"tick 1\nwork 5", 4)
	fails(t, head+"show now\nnode n2 1,0,0,0 main", 4)
	fails(t, "boot node n1\n"+head, 1) // names are those of the nodes ahead
	var sixteen strings.Builder
	for _, c := range "abcdefghijklmnop" {
		sixteen.WriteString("node " + string(c) + " 1,0,0,0 main\n")
	}
	tells(t, sixteen.String()+"show now", "now 0")
	fails(t, sixteen.String()+"node q 1,0,0,0 main", 17)
	tells(t, "")
	tells(t, "\n#\n\n")
	tells(t, "# x\nroom 99\n\nwork 1 -2 3\n# y\nnode a 1,0,0,0 m\nshow now", "now 0")
	tells(t, "show now", "now 0")
}

func TestFirstFaultIsTold(t *testing.T) {
	fails(t, "tick x", 1)
	fails(t, head+"show now\nbad\nworse", 4)
	fails(t, head+"tick 1\n"+submit+"\nshow what", 5)
}

func TestNumbers(t *testing.T) {
	for _, n := range []string{"0", "1", "-1", "50", "9999999999999", "-9999999999999", "10"} {
		if _, e, at := script.Run("tick " + n); e != api.OK || at != 0 {
			t.Error(n, e)
		}
	}
	tells(t, "tick -5\nshow now\ntick 9999999999999\nshow now", "now 0", "now 50")
}

// P23.2

func TestExamples(t *testing.T) {
	tells(t, head+text(submit, "calm 20", "show jobs", "show heard 1"), "job 1 done 1 3", "heard 1 0 1 1")
	tells(t, strings.Replace(head, "work 3", "work 9", 1)+text(submit, "calm 20", "show jobs"), "job 1 timedout 1 3")
	tells(t, head+text(strings.Replace(submit, "part=main", "part=none", 1), "calm 5", "show heard 1", "show jobs"), "heard 1 81 0 0")
	tells(t, head+text(strings.Replace(submit, "demand=1", "demand=3", 1), "calm 5", "show heard 1", submit+" after=-1", "calm 5", "show heard 1"), "heard 1 82 0 0", "heard 1 82 0 0", "heard 2 91 0 0")
	tells(t, "tick 60\nshow now", "now 50")
	tells(t, "deliver 0\nshow now", "error 1", "now 0")
}

func TestBackfill(t *testing.T) {
	tells(t, text("node n1 2,0,0,0 main", "node n2 2,0,0,0 main", "work 4 10 3 4",
		"ask 1 submit user=ana part=main nodes=1 demand=2,0,0,0 wall=6 + user=ana part=main nodes=2 demand=2,0,0,0 wall=12 + user=ana part=main nodes=1 demand=2,0,0,0 wall=5",
		"calm 4", "show jobs", "show run n1", "show run n2", "calm 4", "show jobs", "calm 30", "show jobs"),
		"job 1 running 1 3", "job 2 pending 0 17", "job 3 running 1 3", "run 1 1 3 7", "run 3 1 3 6",
		"job 1 done 1 3", "job 2 running 1 8", "job 3 done 1 3",
		"job 1 done 1 3", "job 2 done 1 8", "job 3 done 1 3")
}

func TestShares(t *testing.T) {
	one := " part=main nodes=1 demand=2,0,0,0 wall=5"
	tells(t, text("node n1 2,2,0,0 main", "work 5", "ask 1 submit user=bob"+one+" + user=bob"+one+" + user=ana"+one, "calm 4", "show jobs"),
		"job 1 pending 0 16", "job 2 pending 0 29", "job 3 running 1 3")
}

func TestActsOneByOne(t *testing.T) {
	tells(t, head+text("show claim", "boot control 0", "boot control 0", "boot control 2", "boot control -1", "step control 0", "show claim", "boot node n1", "boot node n1", "step node n1", "show packets",
		"double 0", "drop 1", "spoil 0 40", "spoil 0 9999", "spoil 9 0", "deliver 0", "show packets", "deliver 0", "show packets", "crash node n1", "crash control 0", "crash control 7", "step client 5", "step client 1", "step control 1", "show packets", "cut 3"),
		"claim 0 0 0", "error 100", "error 1", "error 1", "claim 1 0 40", "error 100", "packets 2", "error 1", "error 1", "packets 1", "packets 1", "error 1", "error 1", "packets 1")
}

func TestAsks(t *testing.T) {
	tells(t, head+text(submit+" held=1", submit, "ask 2 cancel 9", "ask 5 cancel 1", "ask 17 cancel 1", "ask 0 hold 1", "ask 3 drain n1", "ask 4 hold 1000", "calm 6",
		"show heard 1", "show heard 2", "show heard 3", "show heard 4", "show heard 5", "show heard -1", "show jobs",
		"ask 1 release 1", "ask 2 hold 1", "ask 3 fill n1", "calm 6", "show heard 1", "show heard 2", "show heard 3", "show jobs"),
		"error 100", "error 1", "error 1", "error 1",
		"heard 1 0 1 1", "heard 1 90 0 0", "heard 1 0 0 0", "heard 1 130 0 0", "job 1 held 0 -1",
		"heard 1 0 1 1", "heard 2 0 1 1", "heard 1 90 0 0", "heard 2 0 1 1", "heard 1 0 0 0", "heard 2 0 0 0", "job 1 held 0 -1")
}

func TestSeqCountsWhatWentWell(t *testing.T) {
	tells(t, head+text(submit, submit, submit, "calm 5", submit, "calm 5", "show heard 1"), "error 100", "error 100", "heard 1 0 1 1", "heard 2 0 2 2")
}

func TestRoom(t *testing.T) {
	tells(t, "room 30\n"+head+text(submit, "calm 9", "show heard 1"), "heard 1 153 0 0")
	tells(t, "room -1\n"+head+text("calm 9", "show claim"), "claim 9 0 49")
}

// TestUsualRoom nearly fills a disk with held jobs, whose snapshot takes even more, and sends small requests until it is full to the byte.
func TestUsualRoom(t *testing.T) {
	spec := "user=abcdefghijklmnop part=main nodes=1 demand=1000000000,1000000000,1000000000,1000000000 wall=1000 prio=100 retries=5 held=1"
	eight := "ask 1 submit " + spec + strings.Repeat(" + "+spec, 7)
	story := "node n1 1000000000,1000000000,1000000000,1000000000 main\n" + strings.Repeat(eight+"\ncalm 4\n", 8)
	less, more := 0, 0
	for size := 115; size < 125; size++ { // in bytes beyond the least: at one of these a request just fits
		last := story
		for i := range 16 {
			user := strings.Repeat("a", 1+min(max(size-15*i, 0), 15))
			last += "ask 2 submit " + strings.Replace(spec, "abcdefghijklmnop", user, 1) + "\ncalm 4\n"
		}
		last += "show heard 1\nshow heard 2"
		usual, _, _ := script.Run(last)
		a, _, _ := script.Run("room 9999\n" + last)
		b, _, _ := script.Run("room 10001\n" + last)
		if !slices.Equal(usual, a) {
			less++
		}
		if !slices.Equal(usual, b) {
			more++
		}
	}
	if less == 0 || more == 0 {
		t.Error("no request was just large enough", less, more)
	}
}

func TestTakeOver(t *testing.T) {
	tells(t, head+text("boot control 0", "boot control 1", "step control 0", "cut 2", "boot node n1", "step node n1", "deliver 0", "show claim",
		"tick 41", "step control 1", "show claim", "tick 1", "step control 1", "show claim"),
		"claim 1 0 40", "claim 1 0 40", "claim 2 1 82")
}

func TestEightSpecs(t *testing.T) {
	tells(t, head+text(submit+strings.Repeat(" + user=ana part=main nodes=1 demand=1,0,0,0 wall=5", 7), "calm 5", "show heard 1"), "heard 1 0 1 8")
}

// P23.3

func TestBeginnings(t *testing.T) {
	lines := strings.SplitAfter(text("node n1 2,2,0,0 main", "node n2 2,2,0,0 main", "work 3 8", submit+" array=3 retries=1", "calm 5", "show jobs", "show run n1", "crash node n1", "show packets", "calm 3",
		"show jobs", "deliver 0", "cut 5", "step control 0", "calm 30", "show jobs", "show claim", "ask 2 cancel 1", "calm 50", "show heard 2", "show heard 1"), "\n")
	whole, e, _ := script.Run(strings.Join(lines, ""))
	if e != api.OK || len(whole) < 10 {
		t.Fatal(whole, e)
	}
	for i := range lines {
		part, e, _ := script.Run(strings.Join(lines[:i], ""))
		if e != api.OK || len(part) > len(whole) || !slices.Equal(part, whole[:len(part)]) {
			t.Fatal(i, part)
		}
		remarks := strings.Join(lines[:i], "") + "\n# remark\n\n" + strings.Join(lines[i:], "")
		if got, e, _ := script.Run(remarks); e != api.OK || !slices.Equal(got, whole) {
			t.Fatal("ignored lines change something", i)
		}
	}
	fails(t, "\n\n#\n"+strings.Join(lines, "")+"bad", 3+len(lines))
}
