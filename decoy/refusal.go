package decoy

import (
	"errors"
	"strconv"

	"wigeon/api"
)

// refusal is the error of an order that is refused.
type refusal struct {
	code api.Errno
}

// Error returns the refusal as a text.
func (r refusal) Error() string {
	return "the order is refused: " + strconv.Itoa(int(r.code))
}

// codeOf returns the code of the refusal that an error is, and api.OK if there
// is none.
func codeOf(err error) api.Errno {
	var r refusal
	if errors.As(err, &r) {
		return r.code
	}
	return api.OK
}
