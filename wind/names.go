package wind

import "wigeon/api"

// names holds the names of the points.
var names = [api.Winds]string{
	"N", "NbE", "NNE", "NEbN", "NE", "NEbE", "ENE", "EbN",
	"E", "EbS", "ESE", "SEbE", "SE", "SEbS", "SSE", "SbE",
	"S", "SbW", "SSW", "SWbS", "SW", "SWbW", "WSW", "WbS",
	"W", "WbN", "WNW", "NWbW", "NW", "NWbN", "NNW", "NbW",
}

// Name returns the name of a point.
func Name(point int) (string, api.Errno) {
	if !isPoint(point) {
		return "", api.ErrArg
	}
	return names[point], api.OK
}

// Point returns the point of a name.
func Point(name string) (int, api.Errno) {
	for p := range api.Winds {
		if names[p] == name {
			return p, api.OK
		}
	}
	return 0, api.ErrSyntax
}
