/- 2^252 + 27742317777372353535851937790883648493 is a prime. No program is named here. -/
import Derived.Test.YtmdoojfcgbokjaaDoorMathPrime
namespace Go.Proofs.YtmdoojfcgbokjaaDoor
theorem pr_531581 : Pr 531581 := prime_small (f := 729) (by decide) (by decide) (by decide +kernel)
theorem pr_1224481 : Pr 1224481 := prime_small (f := 1106) (by decide) (by decide) (by decide +kernel)
theorem pe_51_0 : ∀ r, Pr r → r ∣ 1257559732178653 → 1224481 ∣ r - 1 := pock1 (a := 2) (f := 51) (y := 1252739704402215) pr_1224481 (by decide +kernel) (by decide +kernel) (by decide +kernel) (by decide +kernel) (by decide +kernel) (by decide +kernel)
theorem pe_51_1 : ∀ r, Pr r → r ∣ 1257559732178653 → 531581 ∣ r - 1 := pock1 (a := 2) (f := 51) (y := 1139842034583224) pr_531581 (by decide +kernel) (by decide +kernel) (by decide +kernel) (by decide +kernel) (by decide +kernel) (by decide +kernel)
theorem pr_1257559732178653 : Pr 1257559732178653 := prime2 (by decide +kernel) pr_1224481 pr_531581 (by decide +kernel) (by decide +kernel) pe_51_0 pe_51_1
theorem pe_62_0 : ∀ r, Pr r → r ∣ 4434155615661930479 → 1257559732178653 ∣ r - 1 := pock1 (a := 2) (f := 62) (y := 415787812636281767) pr_1257559732178653 (by decide +kernel) (by decide +kernel) (by decide +kernel) (by decide +kernel) (by decide +kernel) (by decide +kernel)
theorem pr_4434155615661930479 : Pr 4434155615661930479 := prime1 (by decide +kernel) (by decide +kernel) (by decide +kernel) pe_62_0
theorem pe_88_0 : ∀ r, Pr r → r ∣ 172054593956031949258510691 → 4434155615661930479 ∣ r - 1 := pock1 (a := 2) (f := 88) (y := 81982237619807054769897707) pr_4434155615661930479 (by decide +kernel) (by decide +kernel) (by decide +kernel) (by decide +kernel) (by decide +kernel) (by decide +kernel)
theorem pr_172054593956031949258510691 : Pr 172054593956031949258510691 := prime1 (by decide +kernel) (by decide +kernel) (by decide +kernel) pe_88_0
theorem pe_134_0 : ∀ r, Pr r → r ∣ 19757330305831588566944191468367130476339 → 172054593956031949258510691 ∣ r - 1 := pock1 (a := 2) (f := 134) (y := 9148758478138211201771971577098600188172) pr_172054593956031949258510691 (by decide +kernel) (by decide +kernel) (by decide +kernel) (by decide +kernel) (by decide +kernel) (by decide +kernel)
theorem pr_19757330305831588566944191468367130476339 : Pr 19757330305831588566944191468367130476339 := prime1 (by decide +kernel) (by decide +kernel) (by decide +kernel) pe_134_0
theorem pe_138_0 : ∀ r, Pr r → r ∣ 276602624281642239937218680557139826668747 → 19757330305831588566944191468367130476339 ∣ r - 1 := pock1 (a := 2) (f := 138) (y := 16384) pr_19757330305831588566944191468367130476339 (by decide +kernel) (by decide +kernel) (by decide +kernel) (by decide +kernel) (by decide +kernel) (by decide +kernel)
theorem pr_276602624281642239937218680557139826668747 : Pr 276602624281642239937218680557139826668747 := prime1 (by decide +kernel) (by decide +kernel) (by decide +kernel) pe_138_0
theorem pe_253_0 : ∀ r, Pr r → r ∣ 7237005577332262213973186563042994240857116359379907606001950938285454250989 → 276602624281642239937218680557139826668747 ∣ r - 1 := pock1 (a := 2) (f := 253) (y := 2975531125133123119648879457563281269120703404158613135195788908093573672641) pr_276602624281642239937218680557139826668747 (by decide +kernel) (by decide +kernel) (by decide +kernel) (by decide +kernel) (by decide +kernel) (by decide +kernel)
theorem pr_ell : Pr 7237005577332262213973186563042994240857116359379907606001950938285454250989 := prime1 (by decide +kernel) (by decide +kernel) (by decide +kernel) pe_253_0
end Go.Proofs.YtmdoojfcgbokjaaDoor
