package coast_test

import "testing"

// T10, P10.1: a parcel of which it is not known whose it is pays salvage alone; what is weighed elsewhere shows whose it
// is, and who is paid; a paper that is withdrawn shows that it was too early; and a claim that no assignment has is refused.
func TestTale(t *testing.T) {
	plays(t, begin+`
tell 0 paper package 1 1 0 ab oil 40 60 1 7
tell 0 paper package 1 2 0 a? oil 40 45 1 8
tell 0 rate rate 0 all 1 5 0 0
> ok
> number 1
> number 2
> number 3
pass 5
tell 1 report 3 found 1 a? oil 10 60 4
tell 1 report 4 found 0 ?b oil 10 60 5
send 0 1
carry 0 1 0
carry 1 0 0
carry 0 1 0
carry 1 0 0
carry 0 1 0
carry 1 0 0
> ok
> number 1
> number 2
> ok
> ok
> ok
> ok
> ok
> ok
> ok
pass 20
tell 0 sale 20 sale 60 100 0 0 0
ask 0 at 20 may 60 1 1
ask 0 at 20 may 60 1 2
ask 0 at 20 sure 60 20
due 0 60
settle
held 0
> ok
> number 4
> answer 1
> answer 1
> answer 1
> due 1
> 4 20
> number 2
> held 80
pass 30
tell 1 report 30 weighed 110 50 50
send 1 0
carry 1 0 0
carry 0 1 0
carry 1 0 0
carry 0 1 0
carry 1 0 0
carry 0 1 0
carry 1 0 0
ask 0 at 30 may 60 1 1
audit 0 at 30 may 60 1 1 = 0 | 1 | 1 0
audit 0 at 30 may 60 1 1 = 0 | | 1 0
audit 0 at 30 may 60 1 1 = 1 | 0 1
audit 0 at 30 may 60 1 1 = 1 | 0 0
ask 0 at 30 may 60 1 2
ask 0 at 20 may 60 1 1
settle
has 0 8 60
held 0
> ok
> number 3
> ok
> ok
> ok
> ok
> ok
> ok
> ok
> error 5
> answer 0
> ok
> error 91
> error 91
> error 91
> answer 1
> answer 1
> number 1
> has 80
> held 0
pass 40
tell 0 paper void 10
tell 0 paper package 1 2 0 a? oil 40 60 1 8
settle
settle
has 0 8 60
has 0 4 60
held 0
records 0
> ok
> number 8
> number 9
> number 1
> number 0
> has 0
> has 20
> held 80
> records 13
> 0 1 0 paper package 1 1 0 ab oil 40 60 1 7
> 0 2 0 paper package 1 2 0 a? oil 40 45 1 8
> 0 3 0 rate rate 0 all 1 5 0 0
> 0 4 20 sale 20 sale 60 100 0 0 0
> 0 5 20 posting sale 60 100 20 20
> 0 6 20 posting pay 4 60 20 20 20
> 0 7 30 posting pay 8 60 80 16 30
> 0 8 40 paper void 10
> 0 9 40 paper package 1 2 0 a? oil 40 60 1 8
> 0 10 40 posting back 8 60 80 40 40
> 1 1 5 report 3 found 1 a? oil 10 60 4
> 1 2 5 report 4 found 0 ?b oil 10 60 5
> 1 3 30 report 30 weighed 110 50 50
`)
}
