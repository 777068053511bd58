package gate_test

import "fmt"

func sprint(l []any) string { return fmt.Sprintf("%+v", l) }
