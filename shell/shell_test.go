package shell_test

import (
	"fmt"
	"math/rand"
	"strings"
	"testing"

	"liftwell/api"
	"liftwell/frame"
	"liftwell/gateway"
	"liftwell/link"
	"liftwell/msg"
	"liftwell/script"
	"liftwell/shell"
)

var setting = api.Config{Cars: 2, Floors: 4, Fleets: 3, Sessions: 8, Door: 2, Dwell: 3, Hold: 30, Renew: 2, Yield: 15,
	Queue: 2, Quota: 2, Load: 600, Slack: 5, Retry: 4, Cap: 16, Tries: 5, Dead: 100, Window: 4}

const settingLine = "2 4 3 8 2 3 30 2 15 2 2 600 5 4 16 5 100 4\n"

const oneCar = "1 0 0 0 0 0 0 0 0 0 0 0 0 0 0 0 0 0\n"

func expect(t *testing.T, text, want string) {
	t.Helper()
	if got := shell.Run(text); got != want {
		t.Errorf("Run(%q) = %q, want %q", text, got, want)
	}
}

func TestChapter(t *testing.T) {
	expect(t, oneCar, "cars 0\nleases 0\n")
}

func TestFirstLine(t *testing.T) {
	const wrong = "error 8 1\n"
	for _, text := range []string{"", "\n", "\n\n", " ", "x", "1 0 0 x\n", oneCar[:len(oneCar)-1], " " + oneCar, oneCar[:len(oneCar)-1] + " \n", oneCar[2:], "1 " + oneCar,
		strings.Replace(oneCar, "0", "00", 1), strings.Replace(oneCar, "0", "-0", 1), strings.Replace(oneCar, "\n", "\r\n", 1), "\n" + oneCar, "1 0 0 x\n" + oneCar,
		"nonsense\nnonsense\n", oneCar[:len(oneCar)-1] + "x\n1 0 0 x\n", "\xff\n" + oneCar} {
		expect(t, text, wrong)
	}
}

func TestLaterLines(t *testing.T) {
	for _, x := range []struct {
		text string
		line int
	}{
		{"x\n", 2}, {"\n", 2}, {"1 0 0 x", 2}, {"1 0 0 x\n1 0 0", 3}, {"1 0 0 x\n\n1 0 0 x\n", 3}, {"1 0 0 x\n1 0 0 x\n1 0 0 xA5\nx\n", 4}, {"1 0 0 x\n ", 3},
		{oneCar, 2}, {strings.Repeat("1 0 0 x\n", 500) + "1 0 0 x \n", 502},
	} {
		expect(t, oneCar+x.text, fmt.Sprintf("error 8 %d\n", x.line))
	}
	// Nothing is done, where a line behind it is none.
	expect(t, settingLine+"8 0 0 x\n9 0 0 x\nnone\n", "error 8 4\n")
}

func TestErrorsOfSteps(t *testing.T) {
	expect(t, settingLine+"9 0 0 x\n", "error 1\ncars 0 0\nleases 0\n")
	expect(t, settingLine+"0 0 0 x\n-5 0 0 x\n", "error 1\nerror 1\ncars 0 0\nleases 0\n")
	// A car that is broken can't be pressed; a tick is no error; a floor that there is none of.
	expect(t, settingLine+"7 1 1 x\n4 1 2 x\n1 0 0 x\n4 0 4 x\n3 3 1 x\n", "error 7\nerror 1\nerror 1\ncars 0 0\nleases 0\n")
	expect(t, settingLine+"5 2 0 x\n6 -1 1 x\n5 1 -7 x\n8 0 0 x\n", "error 1\nerror 1\nout -1 x302030203020302030"+"20300a312030203020302030202d370a\ncars 0 0\nleases 0\n")
}

func TestCars(t *testing.T) {
	expect(t, settingLine+"4 1 3 x\n"+strings.Repeat("1 0 0 x\n", 7), "cars 0 7\nleases 0\n")
	expect(t, settingLine+strings.Repeat("1 0 0 x\n", 7), "cars 0 0\nleases 0\n")
	eight := "8" + settingLine[1:]
	expect(t, eight+"4 7 2 x\n4 0 3 x\n4 3 1 x\n"+strings.Repeat("1 0 0 x\n", 20), "cars 12 0 0 4 0 0 0 8\nleases 0\n")
	expect(t, "9"+settingLine[1:], "cars 0 0 0 0 0 0 0 0\nleases 0\n")
	expect(t, "-9"+settingLine[1:], "cars 0\nleases 0\n")
}

func framed(p api.Packet) []byte {
	payload, _ := msg.Put(p)
	data, _ := frame.Put(payload)
	return data
}

func hello(session int) api.Packet {
	return api.Packet{Session: session, Has: true, Msg: api.Msg{Kind: api.Hello, A: 7, B: 1}}
}

func TestOuts(t *testing.T) {
	welcome := api.Packet{Session: 3, Epoch: 1, Has: true, Msg: api.Msg{Kind: api.Welcome, A: 1}}
	other := api.Packet{Session: 5, Epoch: 2, Has: true, Msg: api.Msg{Kind: api.Welcome, A: 2}}
	text := settingLine + fmt.Sprintf("2 0 0 x%x\n2 9 -9 x%x\n1 0 0 x\n8 0 0 x\n", framed(hello(3)), framed(hello(5)))
	want := fmt.Sprintf("out 3 x%x\nout 5 x%x\nout -1 x%x\ncars 0 0\nleases 0\n", framed(welcome), framed(other), "0 0 0 0 0 0\n1 0 0 0 0 0\n")
	expect(t, text, want)
	request := api.Packet{Session: 3, Epoch: 1, Ack: 1, Has: true, Msg: api.Msg{Kind: api.Request, A: 1, B: 3, C: 80}}
	queued := api.Packet{Session: 3, Epoch: 1, Seq: 1, Ack: 1, Has: true, Msg: api.Msg{Kind: api.Queued}}
	text = settingLine + fmt.Sprintf("2 0 0 x%x\n1 0 0 x\n2 0 0 x%x\n1 0 0 x\n", framed(hello(3)), framed(request))
	expect(t, text, fmt.Sprintf("out 3 x%x\nout 3 x%x\ncars 0 0\nleases 1\n", framed(welcome), framed(queued)))
}

// A run is steps that a gateway did, and what is to be told of them.
type run struct {
	c     api.Config
	g     *gateway.Gateway
	steps []api.Step
	told  strings.Builder
	done  int // how many robots heard ExitOK
}

func (r *run) do(s api.Step) []api.Out {
	r.steps = append(r.steps, s)
	outs, err := r.g.Do(s)
	for _, out := range outs {
		fmt.Fprintf(&r.told, "out %d x%x\n", out.Session, out.Data)
	}
	if err != api.OK {
		fmt.Fprintf(&r.told, "error %d\n", int(err))
	}
	return outs
}

// text is the run as a text, with the steps' lines written here.
func (r *run) text() string {
	var text strings.Builder
	text.WriteString(script.Setting(r.c))
	for _, s := range r.steps {
		fmt.Fprintf(&text, "%d %d %d x%x\n", s.Kind, s.A, s.B, s.Data)
	}
	return text.String()
}

// want is what is told of the run.
func (r *run) want() string {
	units := ""
	for _, v := range r.g.Views() {
		units += fmt.Sprintf(" %d", v.Unit)
	}
	return r.told.String() + fmt.Sprintf("cars%s\nleases %d\n", units, len(r.g.Core().Leases()))
}

type robot struct {
	session, from, to int
	l                 *link.Link
}

func (b *robot) hear(r *run, data []byte) {
	s := new(frame.Stream)
	s.Feed(data)
	payload, _ := s.Next()
	p, _ := msg.Get(payload)
	now := r.g.Core().Group().Now()
	if b.l == nil && p.Msg.Kind == api.Welcome {
		b.l = link.New(r.c, b.session, p.Epoch, now)
		b.l.Send(api.Msg{Kind: api.Request, A: b.from, B: b.to, C: 100})
	}
	if b.l == nil {
		return
	}
	m, ok := b.l.Recv(p, now)
	switch {
	case !ok:
	case m.Kind == api.Arrived:
		b.l.Send(api.Msg{Kind: api.Entered})
	case m.Kind == api.Exit:
		b.l.Send(api.Msg{Kind: api.Exited})
	case m.Kind == api.ExitOK:
		r.done++
	}
}

func (b *robot) speak(r *run) {
	if b.l == nil {
		r.do(api.Step{Kind: api.StepBytes, Data: framed(hello(b.session))})
	} else if p, ok := b.l.Poll(r.g.Core().Group().Now()); ok {
		r.do(api.Step{Kind: api.StepBytes, Data: framed(p)})
	}
}

func TestWholeRides(t *testing.T) {
	done := 0
	for seed := range 30 {
		rnd := rand.New(rand.NewSource(int64(seed)))
		c := setting
		c.Cars, c.Floors = 2+rnd.Intn(3), 2+rnd.Intn(5)
		r := &run{c: c, g: gateway.New(c)}
		var robots []*robot
		for n := range 3 {
			from := rnd.Intn(c.Floors)
			robots = append(robots, &robot{session: n * 3, from: from, to: (from + 1 + rnd.Intn(c.Floors-1)) % c.Floors})
		}
		for range 150 {
			for _, out := range r.do(api.Step{Kind: api.StepTick}) {
				robots[out.Session/3].hear(r, out.Data)
			}
			for _, l := range r.g.Core().Leases() {
				kg := 0
				if l.Phase == api.Board || l.Phase == api.Go {
					kg = 100
				}
				if r.g.Core().Group().Cars()[l.Car].Load != kg {
					r.do(api.Step{Kind: api.StepLoad, A: l.Car, B: kg})
				}
			}
			for _, b := range robots {
				b.speak(r)
			}
			if rnd.Intn(4) == 0 {
				r.do(api.Step{Kind: 2 + rnd.Intn(8), A: rnd.Intn(6) - 1, B: rnd.Intn(6) - 1, Data: []byte{0xa5, byte(rnd.Intn(256))}[:rnd.Intn(3)]})
			}
		}
		done += r.done
		if got, want := shell.Run(r.text()), r.want(); got != want {
			t.Fatalf("seed %d:\n%s\nwant\n%s", seed, got, want)
		}
	}
	if done < 20 {
		t.Errorf("%d rides came to their end", done)
	}
}

func TestTheSameAgain(t *testing.T) {
	text := settingLine + fmt.Sprintf("2 0 0 x%x\n3 2 1 x\n1 0 0 x\n1 0 0 x\n8 0 0 x\n", framed(hello(3)))
	first := shell.Run(text)
	shell.Run(oneCar)
	if again := shell.Run(text); again != first {
		t.Errorf("%q, then %q", first, again)
	}
}
