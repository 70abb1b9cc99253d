package lines

import (
	"strconv"
	"strings"

	"beadle/api"
	"beadle/text"
)

// failure is the answer that whoever fails gives up with.
type failure string

// giveUp gives up with an error, and what tells more of it.
func giveUp(e api.Errno, more ...int) {
	panic(failure("error" + toldWholes(int(e)) + toldWholes(more...)))
}

// must gives up, if there is an error.
func must(e api.Errno) {
	if e != api.OK {
		giveUp(e)
	}
}

// behind is each of these as it is told, a blank ahead of each.
func behind[T any](all []T, told func(T) string) string {
	var s strings.Builder
	for _, one := range all {
		s.WriteByte(' ')
		s.WriteString(told(one))
	}
	return s.String()
}

func toldWholes(all ...int) string { return behind(all, strconv.Itoa) }

func toldNumbers(all []float64) string { return behind(all, text.Print) }

// toldCall is whose call a deed is, and which.
func toldCall(d api.Deed) string {
	return strconv.Itoa(d.Thread) + "." + strconv.Itoa(d.No)
}

func toldDeed(d api.Deed) string {
	return toldCall(d) + ":" + toldEnd(d.End) + ":" + strconv.Itoa(d.Mark)
}

func toldEnd(e api.End) string {
	switch e.How {
	case api.Committed:
		return "committed"
	case api.Aborted:
		return "abort-" + strconv.Itoa(e.Code)
	case api.Failed:
		return "error-" + strconv.Itoa(int(e.E))
	}
	return "going"
}
