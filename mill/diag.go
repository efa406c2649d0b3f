package mill

import "strconv"

// Diag is an error with its place in a text.
type Diag struct {
	At  int
	Err error
}

// Error tells the place and what is wrong there.
func (d *Diag) Error() string {
	if d == nil {
		return ""
	}
	return "at " + strconv.Itoa(d.At) + ": " + reason(d.Err)
}

// Unwrap answers the error without its place.
func (d *Diag) Unwrap() error {
	if d == nil {
		return nil
	}
	return d.Err
}

// reason asks none but the package's own errors for their texts: Err is open
// to all, and a Diag that holds itself would be asked without an end.
func reason(err error) string {
	for _, known := range []error{
		ErrLong, ErrToken, ErrSyntax, ErrMany, ErrTwice, ErrName, ErrType,
		ErrPeriod, ErrFree, ErrCycle, ErrFlow, ErrInputs, ErrOverrun,
	} {
		if err == known {
			return known.Error()
		}
	}
	return "an error of another kind"
}
