package script_test

import (
	"bytes"
	"fmt"
	"math"
	"math/rand"
	"strings"
	"testing"

	"liftwell/api"
	"liftwell/script"
)

func same(a, b []api.Step) bool {
	if len(a) != len(b) {
		return false
	}
	for i := range a {
		if a[i].Kind != b[i].Kind || a[i].A != b[i].A || a[i].B != b[i].B || !bytes.Equal(a[i].Data, b[i].Data) {
			return false
		}
	}
	return true
}

func thereAndBack(t *testing.T, list []api.Step, text string) {
	t.Helper()
	if got := script.Print(list); got != text {
		t.Errorf("Print(%+v) = %q, want %q", list, got, text)
	}
	if got, line, err := script.Parse(text); !same(got, list) || line != 0 || err != api.OK {
		t.Errorf("Parse(%q) = %+v %d %d, want %+v", text, got, line, err, list)
	}
}

func TestChapter(t *testing.T) {
	thereAndBack(t, []api.Step{{Kind: api.StepTick}}, "1 0 0 x\n")
}

func TestSteps(t *testing.T) {
	all := make([]byte, 256)
	hex := ""
	for n := range all {
		all[n] = byte(n)
		hex += fmt.Sprintf("%02x", n)
	}
	thereAndBack(t, nil, "")
	thereAndBack(t, []api.Step{}, "")
	thereAndBack(t, []api.Step{{Kind: 2, A: 3, B: -4, Data: []byte{0, 15, 16, 0xa5, 255}}}, "2 3 -4 x000f10a5ff\n")
	thereAndBack(t, []api.Step{{Kind: 1}, {Kind: 8, Data: []byte{}}, {Kind: 3, A: 2, B: 1}}, "1 0 0 x\n8 0 0 x\n3 2 1 x\n")
	thereAndBack(t, []api.Step{{Data: all}}, "0 0 0 x"+hex+"\n")
	// Kinds that are none are steps, too; and the ends of 64 bits.
	thereAndBack(t, []api.Step{{Kind: math.MinInt, A: math.MaxInt, B: math.MinInt + 1}, {Kind: -1, A: 9, B: 10}},
		"-9223372036854775808 9223372036854775807 -9223372036854775807 x\n-1 9 10 x\n")
}

func TestDrawnSteps(t *testing.T) {
	r := rand.New(rand.NewSource(24))
	for range 300 {
		var list []api.Step
		var text strings.Builder
		for range r.Intn(12) {
			s := api.Step{Kind: int(r.Uint64()) >> r.Intn(64), A: int(r.Uint64()) >> r.Intn(64), B: int(r.Uint64()) >> r.Intn(64), Data: make([]byte, r.Intn(20))}
			r.Read(s.Data)
			list = append(list, s)
			fmt.Fprintf(&text, "%d %d %d x%x\n", s.Kind, s.A, s.B, s.Data)
		}
		thereAndBack(t, list, text.String())
	}
}

// noNumbers are words that are no numbers.
var noNumbers = []string{"", "+1", "-0", "00", "01", "-01", "--1", "1-", "-", "+", "+0", "1.0", "1e3", "0x1", "1_0", "a", "x", "٣", "１", "1\x00", "\xff", "1\r", "1\t", "\v1",
	"9223372036854775808", "-9223372036854775809", "18446744073709551615", "99999999999999999999999", "0b1", "0o7", "é", "1,0", "∞", "NaN"}

// noBytes are words that are no bytes.
var noBytes = []string{"", "0", "00", "X", "X00", "x0", "x000", "xA5", "xa5F0", "xAB", "xg0", "x0g", "x/0", "x:0", "x`0", "x0@", "x-1", "x+1", "x0x00", "xx", "xx0", "x0é", "xé", "x\xff\xff", "x\xff",
	"x٣", "x00\r", "x00\t", "x\x00\x00", "1", "y00"}

func expectNoStep(t *testing.T, text string, line int) {
	t.Helper()
	if got, n, err := script.Parse(text); len(got) != 0 || n != line || err != api.ErrLine {
		t.Errorf("Parse(%q) = %+v %d %d, want line %d", text, got, n, err, line)
	}
}

func TestLinesThatAreNone(t *testing.T) {
	lines := []string{
		"", " ", "1", "1 0", "1 0 0", "1 0 0 ", "1 0 0 x ", " 1 0 0 x", "1  0 0 x", "1 0  0 x", "1 0 0  x", "1 0 0 x 0", "1 0 0 x x", "1 0 0 0 x", "1 0 x 0", "x 0 0 1", "x",
		"1\t0 0 x", "1 0 0\tx", "1 0 0 x\r", "1 0 0 x\x00", "\x001 0 0 x", "1\u00a00 0 x", "1 0 0 x00 ", "\ufeff1 0 0 x", "1,0,0,x", "1 0 0 x00 00",
	}
	for _, word := range noNumbers {
		lines = append(lines, word+" 0 0 x", "1 "+word+" 0 x", "1 0 "+word+" x")
	}
	for _, word := range noBytes {
		lines = append(lines, "1 0 0 "+word)
	}
	for _, line := range lines {
		expectNoStep(t, line+"\n", 1)
		expectNoStep(t, "1 0 0 x\n2 0 0 xa5\n"+line+"\n1 0 0 x\n", 3)
		expectNoStep(t, "1 0 0 x\n"+line+"\nnone\n", 2)
	}
}

func TestNoByte10Behind(t *testing.T) {
	for _, text := range []string{"1 0 0 x", "1 0 0 x0", " ", "none", "1 0 0 xa5"} {
		expectNoStep(t, text, 1)
		expectNoStep(t, "1 0 0 x\n"+text, 2)
	}
	expectNoStep(t, "\n", 1)
	expectNoStep(t, "1 0 0 x\n\n", 2)
	expectNoStep(t, "\n1 0 0 x\n", 1)
	expectNoStep(t, strings.Repeat("1 0 0 x\n", 999)+"1 0 0 x", 1000)
}

func TestHex(t *testing.T) {
	for _, x := range []struct {
		b    []byte
		want string
	}{{nil, ""}, {[]byte{}, ""}, {[]byte{0}, "00"}, {[]byte{9, 10, 15, 16, 0x9f, 0xa0, 0xff}, "090a0f109fa0ff"}, {[]byte("lift"), "6c696674"}} {
		before := bytes.Clone(x.b)
		if got := script.Hex(x.b); got != x.want || !bytes.Equal(x.b, before) {
			t.Errorf("Hex(%x) = %q", x.b, got)
		}
	}
	for n := range 256 {
		if got, want := script.Hex([]byte{byte(n)}), fmt.Sprintf("%02x", n); got != want {
			t.Errorf("Hex of %d: %q", n, got)
		}
	}
}

// config has numbers, in the order of a setting's line.
func config(n [18]int) api.Config {
	return api.Config{Cars: n[0], Floors: n[1], Fleets: n[2], Sessions: n[3], Door: n[4], Dwell: n[5], Hold: n[6], Renew: n[7], Yield: n[8],
		Queue: n[9], Quota: n[10], Load: n[11], Slack: n[12], Retry: n[13], Cap: n[14], Tries: n[15], Dead: n[16], Window: n[17]}
}

func lineOf(n [18]int) string {
	line := fmt.Sprint(n)
	return line[1:len(line)-1] + "\n"
}

func TestSetting(t *testing.T) {
	r := rand.New(rand.NewSource(25))
	all := [][18]int{{}, {1, 2, 3, 4, 5, 6, 7, 8, 9, 10, 11, 12, 13, 14, 15, 16, 17, 18}, {1}}
	for i := range 18 {
		for _, n := range []int{1, -1, math.MinInt, math.MaxInt} {
			var one [18]int
			one[i] = n
			all = append(all, one)
		}
	}
	for range 200 {
		var n [18]int
		for i := range n {
			n[i] = int(r.Uint64()) >> r.Intn(64)
		}
		all = append(all, n)
	}
	for _, n := range all {
		if got := script.Setting(config(n)); got != lineOf(n) {
			t.Errorf("Setting(%+v) = %q, want %q", config(n), got, lineOf(n))
		}
		if got, ok := script.Set(lineOf(n)); got != config(n) || !ok {
			t.Errorf("Set(%q) = %+v %t", lineOf(n), got, ok)
		}
	}
	if got := script.Setting(config(all[1])); got != "1 2 3 4 5 6 7 8 9 10 11 12 13 14 15 16 17 18\n" {
		t.Errorf("Setting %q", got)
	}
}

func expectNoSetting(t *testing.T, line string) {
	t.Helper()
	if got, ok := script.Set(line); ok || got != (api.Config{}) {
		t.Errorf("Set(%q) = %+v %t", line, got, ok)
	}
}

func TestLinesThatAreNoSettings(t *testing.T) {
	good := lineOf([18]int{1, 2, 3, 4, 5, 6, 7, 8, 9, 10, 11, 12, 13, 14, 15, 16, 17, 18})
	words := strings.Fields(good)
	for _, line := range []string{"", "\n", " \n", "1\n", good[:len(good)-1], " " + good, good + "\n", good + good, good + "1", good + " ", strings.Replace(good, " ", "  ", 1),
		strings.Replace(good, " ", "\t", 1), strings.Replace(good, "\n", " \n", 1), strings.Replace(good, "\n", "\r\n", 1), "\n" + good, "1 0 0 x\n",
		strings.Replace(good, "9 10", "9\n10", 1), strings.Join(words[:17], " ") + "\n", strings.Join(words, " ") + " 19\n", strings.Join(words, " ") + " x\n"} {
		expectNoSetting(t, line)
	}
	for i := range words {
		for _, word := range noNumbers {
			other := append([]string{}, words...)
			other[i] = word
			expectNoSetting(t, strings.Join(other, " ")+"\n")
		}
	}
}

func TestMemory(t *testing.T) {
	data := []byte{1, 2, 3, 4, 5}
	list := []api.Step{{Kind: 2, Data: data[:3]}}
	text := script.Print(list)
	if !bytes.Equal(data, []byte{1, 2, 3, 4, 5}) || list[0].Kind != 2 {
		t.Error("Print changed what was handed in")
	}
	text += text
	first, _, _ := script.Parse(text)
	again, _, _ := script.Parse(text)
	for i := range first[0].Data[:cap(first[0].Data)] {
		first[0].Data[:cap(first[0].Data)][i] = 99
	}
	first[1].Kind = 77
	if !same(again, []api.Step{{Kind: 2, Data: []byte{1, 2, 3}}, {Kind: 2, Data: []byte{1, 2, 3}}}) || !bytes.Equal(first[1].Data, []byte{1, 2, 3}) {
		t.Errorf("answers share memory: %+v %+v", first, again)
	}
}
