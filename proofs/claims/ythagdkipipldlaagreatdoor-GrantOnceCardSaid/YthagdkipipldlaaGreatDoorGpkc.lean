/- Several texts in one: Pkc2, Pkc3, Pkc4, Pkc5. Conditions: as each theorem says. -/
import Derived.Test.YthagdkipipldlaaGreatDoorPkc1
import Derived.Test.YthagdkipipldlaaGreatDoorShaA
import Derived.KernelRfl
import Derived.WalkKit
import Derived.WalkSmall
import Derived.Test.YthagdkipipldlaaGreatDoorBaseA
import Derived.Lib.AtoiErrMem
namespace Go.Proofs.YthagdkipipldlaaGreatDoor.pkc
open Go.Proofs.YthagdkipipldlaaGreatDoor.oct Go.Proofs.YthagdkipipldlaaGreatDoor.ref Go.Proofs.YthagdkipipldlaaGreatDoor.sha

def verK : T := [100, 66, 106, 102, 116, 74, 101, 90, 52, 67, 86, 80, 45, 109, 66, 57, 50, 75, 50, 55, 117, 104, 98, 85, 74, 85, 49, 112, 49, 114, 95, 119, 87, 49, 103, 70, 87, 70, 79, 69, 106, 88, 107]
def chalK : T := [69, 57, 77, 101, 108, 104, 111, 97, 50, 79, 119, 118, 70, 114, 69, 77, 84, 74, 103, 117, 67, 72, 97, 111, 101, 75, 49, 116, 56, 85, 82, 87, 98, 117, 71, 74, 83, 115, 116, 119, 45, 99, 77]
def vblk : T := [100, 66, 106, 102, 116, 74, 101, 90, 52, 67, 86, 80, 45, 109, 66, 57, 50, 75, 50, 55, 117, 104, 98, 85, 74, 85, 49, 112, 49, 114, 95, 119, 87, 49, 103, 70, 87, 70, 79, 69, 106, 88, 107, 128, 0, 0, 0, 0, 0, 0, 0, 0, 0, 0, 0, 0, 0, 0, 0, 0, 0, 0, 1, 88]
theorem v_pad : pad verK = vblk := by decide +kernel
theorem vw0 : wd vblk 0 = 1682074214 := (wd_lo vblk (by decide)).trans (by decide +kernel)
theorem vw1 : wd vblk 1 = 1951032666 := (wd_lo vblk (by decide)).trans (by decide +kernel)
theorem vw2 : wd vblk 2 = 876828240 := (wd_lo vblk (by decide)).trans (by decide +kernel)
theorem vw3 : wd vblk 3 = 762135097 := (wd_lo vblk (by decide)).trans (by decide +kernel)
theorem vw4 : wd vblk 4 = 843788855 := (wd_lo vblk (by decide)).trans (by decide +kernel)
theorem vw5 : wd vblk 5 = 1969775189 := (wd_lo vblk (by decide)).trans (by decide +kernel)
theorem vw6 : wd vblk 6 = 1247097200 := (wd_lo vblk (by decide)).trans (by decide +kernel)
theorem vw7 : wd vblk 7 = 829579127 := (wd_lo vblk (by decide)).trans (by decide +kernel)
theorem vw8 : wd vblk 8 = 1462855494 := (wd_lo vblk (by decide)).trans (by decide +kernel)
theorem vw9 : wd vblk 9 = 1464225605 := (wd_lo vblk (by decide)).trans (by decide +kernel)
theorem vw10 : wd vblk 10 = 1784179584 := (wd_lo vblk (by decide)).trans (by decide +kernel)
theorem vw11 : wd vblk 11 = 0 := (wd_lo vblk (by decide)).trans (by decide +kernel)
theorem vw12 : wd vblk 12 = 0 := (wd_lo vblk (by decide)).trans (by decide +kernel)
theorem vw13 : wd vblk 13 = 0 := (wd_lo vblk (by decide)).trans (by decide +kernel)
theorem vw14 : wd vblk 14 = 0 := (wd_lo vblk (by decide)).trans (by decide +kernel)
theorem vw15 : wd vblk 15 = 344 := (wd_lo vblk (by decide)).trans (by decide +kernel)
theorem vw16 : wd vblk 16 = 3737124638 := (wd_hi vblk (by decide)).trans (by simp only [Nat.reduceSub, vw14, vw9, vw1, vw0]; decide +kernel)
theorem vw17 : wd vblk 17 = 1386132048 := (wd_hi vblk (by decide)).trans (by simp only [Nat.reduceSub, vw15, vw10, vw2, vw1]; decide +kernel)
theorem vw18 : wd vblk 18 = 1545055071 := (wd_hi vblk (by decide)).trans (by simp only [Nat.reduceSub, vw16, vw11, vw3, vw2]; decide +kernel)
theorem vw19 : wd vblk 19 = 1636041625 := (wd_hi vblk (by decide)).trans (by simp only [Nat.reduceSub, vw17, vw12, vw4, vw3]; decide +kernel)
theorem vw20 : wd vblk 20 = 267449454 := (wd_hi vblk (by decide)).trans (by simp only [Nat.reduceSub, vw18, vw13, vw5, vw4]; decide +kernel)
theorem vw21 : wd vblk 21 = 2626846496 := (wd_hi vblk (by decide)).trans (by simp only [Nat.reduceSub, vw19, vw14, vw6, vw5]; decide +kernel)
theorem vw22 : wd vblk 22 = 782225423 := (wd_hi vblk (by decide)).trans (by simp only [Nat.reduceSub, vw20, vw15, vw7, vw6]; decide +kernel)
theorem vw23 : wd vblk 23 = 1612690371 := (wd_hi vblk (by decide)).trans (by simp only [Nat.reduceSub, vw21, vw16, vw8, vw7]; decide +kernel)
theorem vw24 : wd vblk 24 = 3480551333 := (wd_hi vblk (by decide)).trans (by simp only [Nat.reduceSub, vw22, vw17, vw9, vw8]; decide +kernel)
theorem vw25 : wd vblk 25 = 4200562101 := (wd_hi vblk (by decide)).trans (by simp only [Nat.reduceSub, vw23, vw18, vw10, vw9]; decide +kernel)
theorem vw26 : wd vblk 26 = 2884760196 := (wd_hi vblk (by decide)).trans (by simp only [Nat.reduceSub, vw24, vw19, vw11, vw10]; decide +kernel)
theorem vw27 : wd vblk 27 = 1631832617 := (wd_hi vblk (by decide)).trans (by simp only [Nat.reduceSub, vw25, vw20, vw12, vw11]; decide +kernel)
theorem vw28 : wd vblk 28 = 1674230810 := (wd_hi vblk (by decide)).trans (by simp only [Nat.reduceSub, vw26, vw21, vw13, vw12]; decide +kernel)
theorem vw29 : wd vblk 29 = 3404307594 := (wd_hi vblk (by decide)).trans (by simp only [Nat.reduceSub, vw27, vw22, vw14, vw13]; decide +kernel)
theorem vw30 : wd vblk 30 = 437011231 := (wd_hi vblk (by decide)).trans (by simp only [Nat.reduceSub, vw28, vw23, vw15, vw14]; decide +kernel)
theorem vw31 : wd vblk 31 = 2802368253 := (wd_hi vblk (by decide)).trans (by simp only [Nat.reduceSub, vw29, vw24, vw16, vw15]; decide +kernel)
theorem vw32 : wd vblk 32 = 2305649075 := (wd_hi vblk (by decide)).trans (by simp only [Nat.reduceSub, vw30, vw25, vw17, vw16]; decide +kernel)
theorem vw33 : wd vblk 33 = 2802210646 := (wd_hi vblk (by decide)).trans (by simp only [Nat.reduceSub, vw31, vw26, vw18, vw17]; decide +kernel)
theorem vw34 : wd vblk 34 = 356463710 := (wd_hi vblk (by decide)).trans (by simp only [Nat.reduceSub, vw32, vw27, vw19, vw18]; decide +kernel)
theorem vw35 : wd vblk 35 = 2276557634 := (wd_hi vblk (by decide)).trans (by simp only [Nat.reduceSub, vw33, vw28, vw20, vw19]; decide +kernel)
theorem vw36 : wd vblk 36 = 618620203 := (wd_hi vblk (by decide)).trans (by simp only [Nat.reduceSub, vw34, vw29, vw21, vw20]; decide +kernel)
theorem vw37 : wd vblk 37 = 2551500691 := (wd_hi vblk (by decide)).trans (by simp only [Nat.reduceSub, vw35, vw30, vw22, vw21]; decide +kernel)
theorem vw38 : wd vblk 38 = 2585092433 := (wd_hi vblk (by decide)).trans (by simp only [Nat.reduceSub, vw36, vw31, vw23, vw22]; decide +kernel)
theorem vw39 : wd vblk 39 = 1430510983 := (wd_hi vblk (by decide)).trans (by simp only [Nat.reduceSub, vw37, vw32, vw24, vw23]; decide +kernel)
theorem vw40 : wd vblk 40 = 1056047589 := (wd_hi vblk (by decide)).trans (by simp only [Nat.reduceSub, vw38, vw33, vw25, vw24]; decide +kernel)
theorem vw41 : wd vblk 41 = 93174362 := (wd_hi vblk (by decide)).trans (by simp only [Nat.reduceSub, vw39, vw34, vw26, vw25]; decide +kernel)
theorem vw42 : wd vblk 42 = 549822574 := (wd_hi vblk (by decide)).trans (by simp only [Nat.reduceSub, vw40, vw35, vw27, vw26]; decide +kernel)
theorem vw43 : wd vblk 43 = 2286070390 := (wd_hi vblk (by decide)).trans (by simp only [Nat.reduceSub, vw41, vw36, vw28, vw27]; decide +kernel)
theorem vw44 : wd vblk 44 = 3422339793 := (wd_hi vblk (by decide)).trans (by simp only [Nat.reduceSub, vw42, vw37, vw29, vw28]; decide +kernel)
theorem vw45 : wd vblk 45 = 2466830788 := (wd_hi vblk (by decide)).trans (by simp only [Nat.reduceSub, vw43, vw38, vw30, vw29]; decide +kernel)
theorem vw46 : wd vblk 46 = 677426103 := (wd_hi vblk (by decide)).trans (by simp only [Nat.reduceSub, vw44, vw39, vw31, vw30]; decide +kernel)
theorem vw47 : wd vblk 47 = 2320265331 := (wd_hi vblk (by decide)).trans (by simp only [Nat.reduceSub, vw45, vw40, vw32, vw31]; decide +kernel)
theorem vw48 : wd vblk 48 = 186514594 := (wd_hi vblk (by decide)).trans (by simp only [Nat.reduceSub, vw46, vw41, vw33, vw32]; decide +kernel)
theorem vw49 : wd vblk 49 = 4051385571 := (wd_hi vblk (by decide)).trans (by simp only [Nat.reduceSub, vw47, vw42, vw34, vw33]; decide +kernel)
theorem vw50 : wd vblk 50 = 3564328168 := (wd_hi vblk (by decide)).trans (by simp only [Nat.reduceSub, vw48, vw43, vw35, vw34]; decide +kernel)
theorem vw51 : wd vblk 51 = 3642276296 := (wd_hi vblk (by decide)).trans (by simp only [Nat.reduceSub, vw49, vw44, vw36, vw35]; decide +kernel)
theorem vw52 : wd vblk 52 = 2157642169 := (wd_hi vblk (by decide)).trans (by simp only [Nat.reduceSub, vw50, vw45, vw37, vw36]; decide +kernel)
theorem vw53 : wd vblk 53 = 4102264120 := (wd_hi vblk (by decide)).trans (by simp only [Nat.reduceSub, vw51, vw46, vw38, vw37]; decide +kernel)
theorem vw54 : wd vblk 54 = 4170240445 := (wd_hi vblk (by decide)).trans (by simp only [Nat.reduceSub, vw52, vw47, vw39, vw38]; decide +kernel)
theorem vw55 : wd vblk 55 = 1715669472 := (wd_hi vblk (by decide)).trans (by simp only [Nat.reduceSub, vw53, vw48, vw40, vw39]; decide +kernel)
theorem vw56 : wd vblk 56 = 2104546194 := (wd_hi vblk (by decide)).trans (by simp only [Nat.reduceSub, vw54, vw49, vw41, vw40]; decide +kernel)
theorem vw57 : wd vblk 57 = 1880716777 := (wd_hi vblk (by decide)).trans (by simp only [Nat.reduceSub, vw55, vw50, vw42, vw41]; decide +kernel)
theorem vw58 : wd vblk 58 = 3288856930 := (wd_hi vblk (by decide)).trans (by simp only [Nat.reduceSub, vw56, vw51, vw43, vw42]; decide +kernel)
theorem vw59 : wd vblk 59 = 663703457 := (wd_hi vblk (by decide)).trans (by simp only [Nat.reduceSub, vw57, vw52, vw44, vw43]; decide +kernel)
theorem vw60 : wd vblk 60 = 1902297551 := (wd_hi vblk (by decide)).trans (by simp only [Nat.reduceSub, vw58, vw53, vw45, vw44]; decide +kernel)
theorem vw61 : wd vblk 61 = 561519983 := (wd_hi vblk (by decide)).trans (by simp only [Nat.reduceSub, vw59, vw54, vw46, vw45]; decide +kernel)
theorem vw62 : wd vblk 62 = 2980560961 := (wd_hi vblk (by decide)).trans (by simp only [Nat.reduceSub, vw60, vw55, vw47, vw46]; decide +kernel)
theorem vw63 : wd vblk 63 = 1328313667 := (wd_hi vblk (by decide)).trans (by simp only [Nat.reduceSub, vw61, vw56, vw48, vw47]; decide +kernel)
theorem vr1 : rnds st0 vblk 1 = ⟨1615524531, 1779033703, 3144134277, 1013904242, 4245310728, 1359893119, 2600822924, 528734635⟩ := (rnds_next st0 vblk 0).trans (by rw [show rnds st0 vblk 0 = st0 from rfl, vw0]; kernel_rfl)
theorem vr2 : rnds st0 vblk 2 = ⟨812730950, 1615524531, 1779033703, 3144134277, 2622546839, 4245310728, 1359893119, 2600822924⟩ := (rnds_next st0 vblk 1).trans (by rw [vr1, vw1]; kernel_rfl)
theorem vr3 : rnds st0 vblk 3 = ⟨3797531312, 812730950, 1615524531, 1779033703, 577944820, 2622546839, 4245310728, 1359893119⟩ := (rnds_next st0 vblk 2).trans (by rw [vr2, vw2]; kernel_rfl)
theorem vr4 : rnds st0 vblk 4 = ⟨2838760264, 3797531312, 812730950, 1615524531, 652752661, 577944820, 2622546839, 4245310728⟩ := (rnds_next st0 vblk 3).trans (by rw [vr3, vw3]; kernel_rfl)
theorem vr5 : rnds st0 vblk 5 = ⟨634954127, 2838760264, 3797531312, 812730950, 1166876716, 652752661, 577944820, 2622546839⟩ := (rnds_next st0 vblk 4).trans (by rw [vr4, vw4]; kernel_rfl)
theorem vr6 : rnds st0 vblk 6 = ⟨1301646704, 634954127, 2838760264, 3797531312, 891613693, 1166876716, 652752661, 577944820⟩ := (rnds_next st0 vblk 5).trans (by rw [vr5, vw5]; kernel_rfl)
theorem vr7 : rnds st0 vblk 7 = ⟨3158685957, 1301646704, 634954127, 2838760264, 1110973351, 891613693, 1166876716, 652752661⟩ := (rnds_next st0 vblk 6).trans (by rw [vr6, vw6]; kernel_rfl)
theorem vr8 : rnds st0 vblk 8 = ⟨3736592252, 3158685957, 1301646704, 634954127, 2822612770, 1110973351, 891613693, 1166876716⟩ := (rnds_next st0 vblk 7).trans (by rw [vr7, vw7]; kernel_rfl)
theorem vr9 : rnds st0 vblk 9 = ⟨3924915476, 3736592252, 3158685957, 1301646704, 536709140, 2822612770, 1110973351, 891613693⟩ := (rnds_next st0 vblk 8).trans (by rw [vr8, vw8]; kernel_rfl)
theorem vr10 : rnds st0 vblk 10 = ⟨3882447361, 3924915476, 3736592252, 3158685957, 3774464244, 536709140, 2822612770, 1110973351⟩ := (rnds_next st0 vblk 9).trans (by rw [vr9, vw9]; kernel_rfl)
theorem vr11 : rnds st0 vblk 11 = ⟨3352169904, 3882447361, 3924915476, 3736592252, 1208282955, 3774464244, 536709140, 2822612770⟩ := (rnds_next st0 vblk 10).trans (by rw [vr10, vw10]; kernel_rfl)
theorem vr12 : rnds st0 vblk 12 = ⟨1739558608, 3352169904, 3882447361, 3924915476, 4198136633, 1208282955, 3774464244, 536709140⟩ := (rnds_next st0 vblk 11).trans (by rw [vr11, vw11]; kernel_rfl)
theorem vr13 : rnds st0 vblk 13 = ⟨850047385, 1739558608, 3352169904, 3882447361, 1666808007, 4198136633, 1208282955, 3774464244⟩ := (rnds_next st0 vblk 12).trans (by rw [vr12, vw12]; kernel_rfl)
theorem vr14 : rnds st0 vblk 14 = ⟨1210501889, 850047385, 1739558608, 3352169904, 1564234105, 1666808007, 4198136633, 1208282955⟩ := (rnds_next st0 vblk 13).trans (by rw [vr13, vw13]; kernel_rfl)
theorem vr15 : rnds st0 vblk 15 = ⟨257023227, 1210501889, 850047385, 1739558608, 3812714564, 1564234105, 1666808007, 4198136633⟩ := (rnds_next st0 vblk 14).trans (by rw [vr14, vw14]; kernel_rfl)
theorem vr16 : rnds st0 vblk 16 = ⟨641124843, 257023227, 1210501889, 850047385, 541302165, 3812714564, 1564234105, 1666808007⟩ := (rnds_next st0 vblk 15).trans (by rw [vr15, vw15]; kernel_rfl)
theorem vr17 : rnds st0 vblk 17 = ⟨3628593126, 641124843, 257023227, 1210501889, 2663950400, 541302165, 3812714564, 1564234105⟩ := (rnds_next st0 vblk 16).trans (by rw [vr16, vw16]; kernel_rfl)
theorem vr18 : rnds st0 vblk 18 = ⟨1409834976, 3628593126, 641124843, 257023227, 3074341455, 2663950400, 541302165, 3812714564⟩ := (rnds_next st0 vblk 17).trans (by rw [vr17, vw17]; kernel_rfl)
theorem vr19 : rnds st0 vblk 19 = ⟨3982598378, 1409834976, 3628593126, 641124843, 3710744345, 3074341455, 2663950400, 541302165⟩ := (rnds_next st0 vblk 18).trans (by rw [vr18, vw18]; kernel_rfl)
theorem vr20 : rnds st0 vblk 20 = ⟨1736716867, 3982598378, 1409834976, 3628593126, 1995203530, 3710744345, 3074341455, 2663950400⟩ := (rnds_next st0 vblk 19).trans (by rw [vr19, vw19]; kernel_rfl)
theorem vr21 : rnds st0 vblk 21 = ⟨2562309491, 1736716867, 3982598378, 1409834976, 2966306120, 1995203530, 3710744345, 3074341455⟩ := (rnds_next st0 vblk 20).trans (by rw [vr20, vw20]; kernel_rfl)
theorem vr22 : rnds st0 vblk 22 = ⟨3790060594, 2562309491, 1736716867, 3982598378, 1560741564, 2966306120, 1995203530, 3710744345⟩ := (rnds_next st0 vblk 21).trans (by rw [vr21, vw21]; kernel_rfl)
theorem vr23 : rnds st0 vblk 23 = ⟨3920437579, 3790060594, 2562309491, 1736716867, 776657420, 1560741564, 2966306120, 1995203530⟩ := (rnds_next st0 vblk 22).trans (by rw [vr22, vw22]; kernel_rfl)
theorem vr24 : rnds st0 vblk 24 = ⟨1832686567, 3920437579, 3790060594, 2562309491, 2791431706, 776657420, 1560741564, 2966306120⟩ := (rnds_next st0 vblk 23).trans (by rw [vr23, vw23]; kernel_rfl)
theorem vr25 : rnds st0 vblk 25 = ⟨3503567111, 1832686567, 3920437579, 3790060594, 3382996078, 2791431706, 776657420, 1560741564⟩ := (rnds_next st0 vblk 24).trans (by rw [vr24, vw24]; kernel_rfl)
theorem vr26 : rnds st0 vblk 26 = ⟨2706932266, 3503567111, 1832686567, 3920437579, 1823766386, 3382996078, 2791431706, 776657420⟩ := (rnds_next st0 vblk 25).trans (by rw [vr25, vw25]; kernel_rfl)
theorem vr27 : rnds st0 vblk 27 = ⟨2404578073, 2706932266, 3503567111, 1832686567, 3164078194, 1823766386, 3382996078, 2791431706⟩ := (rnds_next st0 vblk 26).trans (by rw [vr26, vw26]; kernel_rfl)
theorem vr28 : rnds st0 vblk 28 = ⟨4018057822, 2404578073, 2706932266, 3503567111, 714470094, 3164078194, 1823766386, 3382996078⟩ := (rnds_next st0 vblk 27).trans (by rw [vr27, vw27]; kernel_rfl)
theorem vr29 : rnds st0 vblk 29 = ⟨265419590, 4018057822, 2404578073, 2706932266, 1567214932, 714470094, 3164078194, 1823766386⟩ := (rnds_next st0 vblk 28).trans (by rw [vr28, vw28]; kernel_rfl)
theorem vr30 : rnds st0 vblk 30 = ⟨2993426826, 265419590, 4018057822, 2404578073, 2789771253, 1567214932, 714470094, 3164078194⟩ := (rnds_next st0 vblk 29).trans (by rw [vr29, vw29]; kernel_rfl)
theorem vr31 : rnds st0 vblk 31 = ⟨918560565, 2993426826, 265419590, 4018057822, 2249040181, 2789771253, 1567214932, 714470094⟩ := (rnds_next st0 vblk 30).trans (by rw [vr30, vw30]; kernel_rfl)
theorem vr32 : rnds st0 vblk 32 = ⟨2798556854, 918560565, 2993426826, 265419590, 2871511288, 2249040181, 2789771253, 1567214932⟩ := (rnds_next st0 vblk 31).trans (by rw [vr31, vw31]; kernel_rfl)
theorem vr33 : rnds st0 vblk 33 = ⟨3764498760, 2798556854, 918560565, 2993426826, 319507350, 2871511288, 2249040181, 2789771253⟩ := (rnds_next st0 vblk 32).trans (by rw [vr32, vw32]; kernel_rfl)
theorem vr34 : rnds st0 vblk 34 = ⟨2365084820, 3764498760, 2798556854, 918560565, 1678344716, 319507350, 2871511288, 2249040181⟩ := (rnds_next st0 vblk 33).trans (by rw [vr33, vw33]; kernel_rfl)
theorem vr35 : rnds st0 vblk 35 = ⟨4097238261, 2365084820, 3764498760, 2798556854, 524701378, 1678344716, 319507350, 2871511288⟩ := (rnds_next st0 vblk 34).trans (by rw [vr34, vw34]; kernel_rfl)
theorem vr36 : rnds st0 vblk 36 = ⟨1658237324, 4097238261, 2365084820, 3764498760, 2751628308, 524701378, 1678344716, 319507350⟩ := (rnds_next st0 vblk 35).trans (by rw [vr35, vw35]; kernel_rfl)
theorem vr37 : rnds st0 vblk 37 = ⟨1699621408, 1658237324, 4097238261, 2365084820, 2460506999, 2751628308, 524701378, 1678344716⟩ := (rnds_next st0 vblk 36).trans (by rw [vr36, vw36]; kernel_rfl)
theorem vr38 : rnds st0 vblk 38 = ⟨3115479725, 1699621408, 1658237324, 4097238261, 1901856049, 2460506999, 2751628308, 524701378⟩ := (rnds_next st0 vblk 37).trans (by rw [vr37, vw37]; kernel_rfl)
theorem vr39 : rnds st0 vblk 39 = ⟨833935404, 3115479725, 1699621408, 1658237324, 2437522071, 1901856049, 2460506999, 2751628308⟩ := (rnds_next st0 vblk 38).trans (by rw [vr38, vw38]; kernel_rfl)
theorem vr40 : rnds st0 vblk 40 = ⟨2552869278, 833935404, 3115479725, 1699621408, 2866666899, 2437522071, 1901856049, 2460506999⟩ := (rnds_next st0 vblk 39).trans (by rw [vr39, vw39]; kernel_rfl)
theorem vr41 : rnds st0 vblk 41 = ⟨499020734, 2552869278, 833935404, 3115479725, 1025693160, 2866666899, 2437522071, 1901856049⟩ := (rnds_next st0 vblk 40).trans (by rw [vr40, vw40]; kernel_rfl)
theorem vr42 : rnds st0 vblk 42 = ⟨1358328744, 499020734, 2552869278, 833935404, 228223789, 1025693160, 2866666899, 2437522071⟩ := (rnds_next st0 vblk 41).trans (by rw [vr41, vw41]; kernel_rfl)
theorem vr43 : rnds st0 vblk 43 = ⟨2847219310, 1358328744, 499020734, 2552869278, 1912195266, 228223789, 1025693160, 2866666899⟩ := (rnds_next st0 vblk 42).trans (by rw [vr42, vw42]; kernel_rfl)
theorem vr44 : rnds st0 vblk 44 = ⟨2628588601, 2847219310, 1358328744, 499020734, 2378080660, 1912195266, 228223789, 1025693160⟩ := (rnds_next st0 vblk 43).trans (by rw [vr43, vw43]; kernel_rfl)
theorem vr45 : rnds st0 vblk 45 = ⟨2815373003, 2628588601, 2847219310, 1358328744, 3122742861, 2378080660, 1912195266, 228223789⟩ := (rnds_next st0 vblk 44).trans (by rw [vr44, vw44]; kernel_rfl)
theorem vr46 : rnds st0 vblk 46 = ⟨2180298054, 2815373003, 2628588601, 2847219310, 2183671599, 3122742861, 2378080660, 1912195266⟩ := (rnds_next st0 vblk 45).trans (by rw [vr45, vw45]; kernel_rfl)
theorem vr47 : rnds st0 vblk 47 = ⟨3432519761, 2180298054, 2815373003, 2628588601, 398707073, 2183671599, 3122742861, 2378080660⟩ := (rnds_next st0 vblk 46).trans (by rw [vr46, vw46]; kernel_rfl)
theorem vr48 : rnds st0 vblk 48 = ⟨4292107201, 3432519761, 2180298054, 2815373003, 1155272145, 398707073, 2183671599, 3122742861⟩ := (rnds_next st0 vblk 47).trans (by rw [vr47, vw47]; kernel_rfl)
theorem vr49 : rnds st0 vblk 49 = ⟨3043703734, 4292107201, 3432519761, 2180298054, 2664456595, 1155272145, 398707073, 2183671599⟩ := (rnds_next st0 vblk 48).trans (by rw [vr48, vw48]; kernel_rfl)
theorem vr50 : rnds st0 vblk 50 = ⟨2243989282, 3043703734, 4292107201, 3432519761, 769354038, 2664456595, 1155272145, 398707073⟩ := (rnds_next st0 vblk 49).trans (by rw [vr49, vw49]; kernel_rfl)
theorem vr51 : rnds st0 vblk 51 = ⟨70446308, 2243989282, 3043703734, 4292107201, 1085432248, 769354038, 2664456595, 1155272145⟩ := (rnds_next st0 vblk 50).trans (by rw [vr50, vw50]; kernel_rfl)
theorem vr52 : rnds st0 vblk 52 = ⟨3014894543, 70446308, 2243989282, 3043703734, 2156283180, 1085432248, 769354038, 2664456595⟩ := (rnds_next st0 vblk 51).trans (by rw [vr51, vw51]; kernel_rfl)
theorem vr53 : rnds st0 vblk 53 = ⟨2632217691, 3014894543, 70446308, 2243989282, 2424222859, 2156283180, 1085432248, 769354038⟩ := (rnds_next st0 vblk 52).trans (by rw [vr52, vw52]; kernel_rfl)
theorem vr54 : rnds st0 vblk 54 = ⟨453973969, 2632217691, 3014894543, 70446308, 937962974, 2424222859, 2156283180, 1085432248⟩ := (rnds_next st0 vblk 53).trans (by rw [vr53, vw53]; kernel_rfl)
theorem vr55 : rnds st0 vblk 55 = ⟨3155797714, 453973969, 2632217691, 3014894543, 1620115963, 937962974, 2424222859, 2156283180⟩ := (rnds_next st0 vblk 54).trans (by rw [vr54, vw54]; kernel_rfl)
theorem vr56 : rnds st0 vblk 56 = ⟨896211660, 3155797714, 453973969, 2632217691, 1309197375, 1620115963, 937962974, 2424222859⟩ := (rnds_next st0 vblk 55).trans (by rw [vr55, vw55]; kernel_rfl)
theorem vr57 : rnds st0 vblk 57 = ⟨661563075, 896211660, 3155797714, 453973969, 267888400, 1309197375, 1620115963, 937962974⟩ := (rnds_next st0 vblk 56).trans (by rw [vr56, vw56]; kernel_rfl)
theorem vr58 : rnds st0 vblk 58 = ⟨1666873786, 661563075, 896211660, 3155797714, 61099121, 267888400, 1309197375, 1620115963⟩ := (rnds_next st0 vblk 57).trans (by rw [vr57, vw57]; kernel_rfl)
theorem vr59 : rnds st0 vblk 59 = ⟨4117003458, 1666873786, 661563075, 896211660, 1295023002, 61099121, 267888400, 1309197375⟩ := (rnds_next st0 vblk 58).trans (by rw [vr58, vw58]; kernel_rfl)
theorem vr60 : rnds st0 vblk 60 = ⟨3132344647, 4117003458, 1666873786, 661563075, 3186796427, 1295023002, 61099121, 267888400⟩ := (rnds_next st0 vblk 59).trans (by rw [vr59, vw59]; kernel_rfl)
theorem vr61 : rnds st0 vblk 61 = ⟨2806528206, 3132344647, 4117003458, 1666873786, 1871719594, 3186796427, 1295023002, 61099121⟩ := (rnds_next st0 vblk 60).trans (by rw [vr60, vw60]; kernel_rfl)
theorem vr62 : rnds st0 vblk 62 = ⟨4071079322, 2806528206, 3132344647, 4117003458, 1331539871, 1871719594, 3186796427, 1295023002⟩ := (rnds_next st0 vblk 61).trans (by rw [vr61, vw61]; kernel_rfl)
theorem vr63 : rnds st0 vblk 63 = ⟨1588800103, 4071079322, 2806528206, 3132344647, 3538672586, 1331539871, 1871719594, 3186796427⟩ := (rnds_next st0 vblk 62).trans (by rw [vr62, vw62]; kernel_rfl)
theorem vr64 : rnds st0 vblk 64 = ⟨2848536623, 1588800103, 4071079322, 2806528206, 630859310, 3538672586, 1331539871, 1871719594⟩ := (rnds_next st0 vblk 63).trans (by rw [vr63, vw63]; kernel_rfl)
theorem v_take : takeB st0 vblk = ⟨332603030, 437967084, 790016268, 1285041672, 1990752429, 1844528214, 1860274506, 3413178819⟩ := by unfold takeB; rw [vr64]; kernel_rfl
theorem v_one : blocks st0 vblk 1 = takeB st0 vblk := rfl
theorem v_digest : digest verK = [19, 211, 30, 150, 26, 26, 216, 236, 47, 22, 177, 12, 76, 152, 46, 8, 118, 168, 120, 173, 109, 241, 68, 86, 110, 225, 137, 74, 203, 112, 249, 195] := by
  unfold digest
  rw [v_pad, show vblk.length / 64 = 1 from by decide, v_one, v_take]
  decide +kernel
theorem v_hash : hashT verK = chalK := by
  unfold hashT
  rw [v_digest]
  decide +kernel
theorem v_ver : verB verK = true := by decide +kernel
theorem v_chal : chalP verK hashM = (0, chalK) := by rw [chal_hash v_ver, v_hash]
theorem v_may : mayP chalK hashM = true := by have h := may_told (v := verK) (m := hashM) (by rw [v_chal]); rwa [v_chal] at h
theorem v_check : checkP chalK hashM verK = true := by have h := check_told (v := verK) (m := hashM) (by rw [v_chal]); rwa [v_chal] at h
end Go.Proofs.YthagdkipipldlaaGreatDoor.pkc

namespace Go.Proofs.YthagdkipipldlaaGreatDoor.pkc
open Go.RowKit
open Go.Proofs.YthagdkipipldlaaGreatDoor.oct Go.Proofs.YthagdkipipldlaaGreatDoor.ref Go.Proofs.YthagdkipipldlaaGreatDoor.sha

theorem okV_text (s : ByteArray) (k : Nat) (h : k < s.size) (h0 : (s.data.toList.take k).all okV = true) : (okV s[k] = true → (s.data.toList.take (k + 1)).all okV = true) ∧ (okV s[k] = false → s.data.toList.all okV = false) := by
  have h1 : k < s.data.toList.length := by simpa using h
  have e : s[k] = s.data.toList[k] := rfl
  rw [e]
  constructor
  · intro h2
    rw [List.take_succ_eq_append_getElem h1, List.all_append, h0, List.all_cons, h2]
    rfl
  · intro h2
    cases h3 : s.data.toList.all okV with
    | false => rfl
    | true =>
      rw [List.all_eq_true] at h3
      rw [h3 _ (List.getElem_mem h1)] at h2
      cases h2
theorem okN_iff (n : Nat) : okN n = true ↔ (65 ≤ n ∧ n ≤ 90) ∨ (97 ≤ n ∧ n ≤ 122) ∨ (48 ≤ n ∧ n ≤ 57) ∨ n = 45 ∨ n = 46 ∨ n = 95 ∨ n = 126 := by
  unfold okN
  simp only [Bool.or_eq_true, Bool.and_eq_true, decide_eq_true_eq]
  omega
theorem okN_yes {n : Nat} (h : (65 ≤ n ∧ n ≤ 90) ∨ (97 ≤ n ∧ n ≤ 122) ∨ (48 ≤ n ∧ n ≤ 57) ∨ n = 45 ∨ n = 46 ∨ n = 95 ∨ n = 126) : okN n = true := (okN_iff n).2 h
theorem okN_no {n : Nat} (h : ¬ ((65 ≤ n ∧ n ≤ 90) ∨ (97 ≤ n ∧ n ≤ 122) ∨ (48 ≤ n ∧ n ≤ 57) ∨ n = 45 ∨ n = 46 ∨ n = 95 ∨ n = 126)) : okN n = false := by
  cases hn : okN n with
  | false => rfl
  | true => exact absurd ((okN_iff n).1 hn) h
/-- the kinds of signs -/
theorem kinds (n : Nat) (h : n < 256) : n ≤ 44 ∨ n = 45 ∨ n = 46 ∨ n = 47 ∨ (48 ≤ n ∧ n ≤ 57) ∨ (58 ≤ n ∧ n ≤ 64) ∨ (65 ≤ n ∧ n ≤ 90) ∨ (91 ≤ n ∧ n ≤ 94) ∨ n = 95 ∨ n = 96 ∨ (97 ≤ n ∧ n ≤ 122) ∨ (123 ≤ n ∧ n ≤ 125) ∨ n = 126 ∨ 127 ≤ n := by omega
set_option maxRecDepth 100000 in
set_option maxHeartbeats 16000000 in
theorem rver_c (s : ByteArray) (w : World) :
    Calls Tryz.prog 101 #[.string s] w fun e w' => e = .returned (.bool (verB s.data.toList)) ∧ w = w' := by
  have HSL : Hid (s.data.toList.length = s.size) := by show _ = _; rw [Array.length_toList]; rfl
  by_cases h0 : 43 ≤ s.size
  · by_cases h64 : s.size ≤ 128
    · have HW : Hid (verB s.data.toList = s.data.toList.all okV) := by
        show _ = _
        unfold verB
        rw [HSL.out, decide_eq_true h0, decide_eq_true h64]; rfl
      have i0 : ¬ ((s.size : Int) < 43) := by omega
      have i64 : ¬ ((s.size : Int) > 128) := by omega
      go_enter Tryz.func101, Tryz.ntmps101
      go_wp2_with fail
      go_loopg [3, 4, 5, 6] s.size (fun g s3 _ _ _ wx => ∃ k : Nat, k + g = s.size ∧ s3 = .int .i64 k ∧ Hid ((s.data.toList.take k).all okV = true) ∧ wx = w)
      case atStart => exact ⟨0, by omega, rfl, rfl, rfl⟩
      case round =>
        obtain ⟨k, hkg, rfl, HN, rfl⟩ := hrel
        rcases gk with _ | g
        · obtain rfl : k = s.size := by omega
          have HR : Hid (verB s.data.toList = true) := by
            have h := HN.out
            rw [List.take_of_length_le (by rw [HSL.out]; exact Nat.le_refl _)] at h
            show _ = _
            rw [HW.out]; exact h
          go_wp2_with fail
          go_ret
          exact ⟨ret_bool HR.out.symm, rfl⟩
        · have hk : k < s.size := by omega
          have hkI : (k : Int) < (s.size : Int) := by omega
          obtain ⟨h1, h2⟩ := okV_text s k hk HN.out
          rw [← HW.out] at h2
          unfold okV at h1 h2
          have hcl : s[k].toNat < 256 := s[k].toNat_lt
          obtain ⟨n, hc⟩ : ∃ n : Nat, s[k].toNat = n := ⟨_, rfl⟩
          rw [hc] at h1 h2 hcl
          have H1 := Lib.hid h1
          have H2 := Lib.hid h2
          have hcc : (s[k].toNat : Int) = (n : Int) := by rw [hc]
          have HK := kinds n hcl
          clear h1 h2 hc
          rcases HK with h | rfl | rfl | rfl | ⟨h, h3⟩ | ⟨h, h3⟩ | ⟨h, h3⟩ | ⟨h, h3⟩ | rfl | rfl | ⟨h, h3⟩ | ⟨h, h3⟩ | rfl | h
          · have HR := Lib.hid (H2.out (okN_no (by omega)))
            have : decide ((64 : Int) < (n : Int)) = false := decide_eq_false (by omega)
            have : decide ((n : Int) < 91) = true := decide_eq_true (by omega)
            have : decide ((96 : Int) < (n : Int)) = false := decide_eq_false (by omega)
            have : decide ((n : Int) < 123) = true := decide_eq_true (by omega)
            have : decide ((47 : Int) < (n : Int)) = false := decide_eq_false (by omega)
            have : decide ((n : Int) < 58) = true := decide_eq_true (by omega)
            have : ((n : Int) != 45) = true := by rw [bne_iff_ne]; omega
            have : ((n : Int) != 46) = true := by rw [bne_iff_ne]; omega
            have : ((n : Int) != 95) = true := by rw [bne_iff_ne]; omega
            have : ((n : Int) != 126) = true := by rw [bne_iff_ne]; omega
            clear H1 H2 hcl h
            go_wp2_with fail
            go_ret
            exact ⟨ret_bool HR.out.symm, rfl⟩
          · have HR := Lib.hid (H1.out (okN_yes (by omega)))
            clear H1 H2 hcl
            go_wp2_with fail
            go_roundg g
            case measure => omega
            case rel => exact ⟨k + 1, by omega, by go_num, HR, rfl⟩
          · have HR := Lib.hid (H1.out (okN_yes (by omega)))
            clear H1 H2 hcl
            go_wp2_with fail
            go_roundg g
            case measure => omega
            case rel => exact ⟨k + 1, by omega, by go_num, HR, rfl⟩
          · have HR := Lib.hid (H2.out (okN_no (by omega)))
            clear H1 H2 hcl
            go_wp2_with fail
            go_ret
            exact ⟨ret_bool HR.out.symm, rfl⟩
          · have HR := Lib.hid (H1.out (okN_yes (by omega)))
            have : decide ((64 : Int) < (n : Int)) = false := decide_eq_false (by omega)
            have : decide ((n : Int) < 91) = true := decide_eq_true (by omega)
            have : decide ((96 : Int) < (n : Int)) = false := decide_eq_false (by omega)
            have : decide ((n : Int) < 123) = true := decide_eq_true (by omega)
            have : decide ((47 : Int) < (n : Int)) = true := decide_eq_true (by omega)
            have : decide ((n : Int) < 58) = true := decide_eq_true (by omega)
            have : ((n : Int) != 45) = true := by rw [bne_iff_ne]; omega
            have : ((n : Int) != 46) = true := by rw [bne_iff_ne]; omega
            have : ((n : Int) != 95) = true := by rw [bne_iff_ne]; omega
            have : ((n : Int) != 126) = true := by rw [bne_iff_ne]; omega
            clear H1 H2 hcl h h3
            go_wp2_with fail
            go_roundg g
            case measure => omega
            case rel => exact ⟨k + 1, by omega, by go_num, HR, rfl⟩
          · have HR := Lib.hid (H2.out (okN_no (by omega)))
            have : decide ((64 : Int) < (n : Int)) = false := decide_eq_false (by omega)
            have : decide ((n : Int) < 91) = true := decide_eq_true (by omega)
            have : decide ((96 : Int) < (n : Int)) = false := decide_eq_false (by omega)
            have : decide ((n : Int) < 123) = true := decide_eq_true (by omega)
            have : decide ((47 : Int) < (n : Int)) = true := decide_eq_true (by omega)
            have : decide ((n : Int) < 58) = false := decide_eq_false (by omega)
            have : ((n : Int) != 45) = true := by rw [bne_iff_ne]; omega
            have : ((n : Int) != 46) = true := by rw [bne_iff_ne]; omega
            have : ((n : Int) != 95) = true := by rw [bne_iff_ne]; omega
            have : ((n : Int) != 126) = true := by rw [bne_iff_ne]; omega
            clear H1 H2 hcl h h3
            go_wp2_with fail
            go_ret
            exact ⟨ret_bool HR.out.symm, rfl⟩
          · have HR := Lib.hid (H1.out (okN_yes (by omega)))
            have : decide ((64 : Int) < (n : Int)) = true := decide_eq_true (by omega)
            have : decide ((n : Int) < 91) = true := decide_eq_true (by omega)
            have : decide ((96 : Int) < (n : Int)) = false := decide_eq_false (by omega)
            have : decide ((n : Int) < 123) = true := decide_eq_true (by omega)
            have : decide ((47 : Int) < (n : Int)) = true := decide_eq_true (by omega)
            have : decide ((n : Int) < 58) = false := decide_eq_false (by omega)
            have : ((n : Int) != 45) = true := by rw [bne_iff_ne]; omega
            have : ((n : Int) != 46) = true := by rw [bne_iff_ne]; omega
            have : ((n : Int) != 95) = true := by rw [bne_iff_ne]; omega
            have : ((n : Int) != 126) = true := by rw [bne_iff_ne]; omega
            clear H1 H2 hcl h h3
            go_wp2_with fail
            go_roundg g
            case measure => omega
            case rel => exact ⟨k + 1, by omega, by go_num, HR, rfl⟩
          · have HR := Lib.hid (H2.out (okN_no (by omega)))
            have : decide ((64 : Int) < (n : Int)) = true := decide_eq_true (by omega)
            have : decide ((n : Int) < 91) = false := decide_eq_false (by omega)
            have : decide ((96 : Int) < (n : Int)) = false := decide_eq_false (by omega)
            have : decide ((n : Int) < 123) = true := decide_eq_true (by omega)
            have : decide ((47 : Int) < (n : Int)) = true := decide_eq_true (by omega)
            have : decide ((n : Int) < 58) = false := decide_eq_false (by omega)
            have : ((n : Int) != 45) = true := by rw [bne_iff_ne]; omega
            have : ((n : Int) != 46) = true := by rw [bne_iff_ne]; omega
            have : ((n : Int) != 95) = true := by rw [bne_iff_ne]; omega
            have : ((n : Int) != 126) = true := by rw [bne_iff_ne]; omega
            clear H1 H2 hcl h h3
            go_wp2_with fail
            go_ret
            exact ⟨ret_bool HR.out.symm, rfl⟩
          · have HR := Lib.hid (H1.out (okN_yes (by omega)))
            clear H1 H2 hcl
            go_wp2_with fail
            go_roundg g
            case measure => omega
            case rel => exact ⟨k + 1, by omega, by go_num, HR, rfl⟩
          · have HR := Lib.hid (H2.out (okN_no (by omega)))
            clear H1 H2 hcl
            go_wp2_with fail
            go_ret
            exact ⟨ret_bool HR.out.symm, rfl⟩
          · have HR := Lib.hid (H1.out (okN_yes (by omega)))
            have : decide ((64 : Int) < (n : Int)) = true := decide_eq_true (by omega)
            have : decide ((n : Int) < 91) = false := decide_eq_false (by omega)
            have : decide ((96 : Int) < (n : Int)) = true := decide_eq_true (by omega)
            have : decide ((n : Int) < 123) = true := decide_eq_true (by omega)
            have : decide ((47 : Int) < (n : Int)) = true := decide_eq_true (by omega)
            have : decide ((n : Int) < 58) = false := decide_eq_false (by omega)
            have : ((n : Int) != 45) = true := by rw [bne_iff_ne]; omega
            have : ((n : Int) != 46) = true := by rw [bne_iff_ne]; omega
            have : ((n : Int) != 95) = true := by rw [bne_iff_ne]; omega
            have : ((n : Int) != 126) = true := by rw [bne_iff_ne]; omega
            clear H1 H2 hcl h h3
            go_wp2_with fail
            go_roundg g
            case measure => omega
            case rel => exact ⟨k + 1, by omega, by go_num, HR, rfl⟩
          · have HR := Lib.hid (H2.out (okN_no (by omega)))
            have : decide ((64 : Int) < (n : Int)) = true := decide_eq_true (by omega)
            have : decide ((n : Int) < 91) = false := decide_eq_false (by omega)
            have : decide ((96 : Int) < (n : Int)) = true := decide_eq_true (by omega)
            have : decide ((n : Int) < 123) = false := decide_eq_false (by omega)
            have : decide ((47 : Int) < (n : Int)) = true := decide_eq_true (by omega)
            have : decide ((n : Int) < 58) = false := decide_eq_false (by omega)
            have : ((n : Int) != 45) = true := by rw [bne_iff_ne]; omega
            have : ((n : Int) != 46) = true := by rw [bne_iff_ne]; omega
            have : ((n : Int) != 95) = true := by rw [bne_iff_ne]; omega
            have : ((n : Int) != 126) = true := by rw [bne_iff_ne]; omega
            clear H1 H2 hcl h h3
            go_wp2_with fail
            go_ret
            exact ⟨ret_bool HR.out.symm, rfl⟩
          · have HR := Lib.hid (H1.out (okN_yes (by omega)))
            clear H1 H2 hcl
            go_wp2_with fail
            go_roundg g
            case measure => omega
            case rel => exact ⟨k + 1, by omega, by go_num, HR, rfl⟩
          · have HR := Lib.hid (H2.out (okN_no (by omega)))
            have : decide ((64 : Int) < (n : Int)) = true := decide_eq_true (by omega)
            have : decide ((n : Int) < 91) = false := decide_eq_false (by omega)
            have : decide ((96 : Int) < (n : Int)) = true := decide_eq_true (by omega)
            have : decide ((n : Int) < 123) = false := decide_eq_false (by omega)
            have : decide ((47 : Int) < (n : Int)) = true := decide_eq_true (by omega)
            have : decide ((n : Int) < 58) = false := decide_eq_false (by omega)
            have : ((n : Int) != 45) = true := by rw [bne_iff_ne]; omega
            have : ((n : Int) != 46) = true := by rw [bne_iff_ne]; omega
            have : ((n : Int) != 95) = true := by rw [bne_iff_ne]; omega
            have : ((n : Int) != 126) = true := by rw [bne_iff_ne]; omega
            clear H1 H2 hcl h
            go_wp2_with fail
            go_ret
            exact ⟨ret_bool HR.out.symm, rfl⟩
    · have HW : Hid (verB s.data.toList = false) := by
        show _ = _
        unfold verB
        rw [HSL.out, decide_eq_true h0, decide_eq_false h64]; rfl
      have i0 : ¬ ((s.size : Int) < 43) := by omega
      have i64 : (s.size : Int) > 128 := by omega
      go_enter Tryz.func101, Tryz.ntmps101
      go_wp2_with fail
      go_ret
      exact ⟨ret_bool HW.out.symm, rfl⟩
  · have HW : Hid (verB s.data.toList = false) := by
      show _ = _
      unfold verB
      rw [HSL.out, decide_eq_false h0]; rfl
    have i0 : (s.size : Int) < 43 := by omega
    go_enter Tryz.func101, Tryz.ntmps101
    go_wp2_with fail
    go_ret
    exact ⟨ret_bool HW.out.symm, rfl⟩
end Go.Proofs.YthagdkipipldlaaGreatDoor.pkc

namespace Go.Proofs.YthagdkipipldlaaGreatDoor.pkc
open Go.RowKit
open Go.Proofs.YthagdkipipldlaaGreatDoor.oct Go.Proofs.YthagdkipipldlaaGreatDoor.ref Go.Proofs.YthagdkipipldlaaGreatDoor.rows Go.Proofs.YthagdkipipldlaaGreatDoor.sha
open Go.Lib (byteCells)

/-- a text -/
def txt (l : T) : Value := .string ⟨l.toArray⟩
theorem rverT_c (l : T) (w : World) : Calls Tryz.prog 101 #[txt l] w fun e w' => e = .returned (.bool (verB l)) ∧ w = w' := rver_c ⟨l.toArray⟩ w
set_option maxRecDepth 100000 in
set_option maxHeartbeats 4000000 in
theorem rmay_c (c m : T) (w : World) (hc : c.length ≤ 1048576) :
    Calls Tryz.prog 83 #[txt c, txt m] w fun e w' => e = .returned (.bool (mayP c m)) ∧ Below w.heap.size w w' := by
  by_cases hp : m = plainM
  · have HR : Hid (mayP c m = verB c) := by show _ = _; unfold mayP; rw [if_pos hp]
    have HV := Lib.hid (rverT_c c w)
    obtain ⟨r, hr⟩ : ∃ r, mayP c m = r := ⟨_, rfl⟩
    rw [hr] at HR ⊢
    subst hp
    unfold txt plainM at *
    clear hr
    go_enter Tryz.func83, Tryz.ntmps83
    go_wp2_with (go_at_call 101; refine HV.out.mono ?_; rintro e w' ⟨rfl, rfl⟩)
    go_ret
    exact ⟨ret_bool HR.out.symm, Below.refl _ _⟩
  · have hb : (m == [112, 108, 97, 105, 110]) = false := by simpa using (show m ≠ [112, 108, 97, 105, 110] from hp)
    have HU := Lib.hid (runweb_c ⟨c.toArray⟩ w (by rw [show (⟨c.toArray⟩ : ByteArray).size = c.length from List.size_toArray]; exact hc))
    rw [show (⟨c.toArray⟩ : ByteArray).data.toList = c from rfl] at HU
    by_cases hm : m = hashM
    · have HR : Hid (mayP c m = mayS c) := by show _ = _; unfold mayP; rw [if_neg hp, decide_eq_true hm]; rfl
      obtain ⟨r, hr⟩ : ∃ r, mayP c m = r := ⟨_, rfl⟩
      rw [hr] at HR ⊢
      subst hm
      unfold txt hashM at *
      clear hr hp hb
      go_enter Tryz.func83, Tryz.ntmps83
      go_wp2_with fail
      refine HU.out.mono ?_
      rintro e w1 (⟨out, v, ho, rfl, hown, hb1⟩ | ⟨hno, rfl, hb1⟩)
      · obtain ⟨_, p, cp, rfl, _⟩ := own_in8 hown
        have hl32 : decide ((out.length : Int) = 32) = decide (out.length = 32) := by rw [Bool.eq_iff_iff, decide_eq_true_iff, decide_eq_true_iff]; omega
        have HS : Hid (r = decide (out.length = 32)) := by show _ = _; rw [HR.out, mayS_of ho]
        have HB := Lib.hid hb1
        clear hown hb1 ho HU
        by_cases h32 : out.length = 32
        · have HT : Hid (r = true) := by show _ = _; rw [HS.out, decide_eq_true h32]
          have i1 : ((out.length : Int) == 32) = true := by rw [beq_iff_eq]; omega
          clear hl32 h32
          go_wp2_with fail
          go_ret
          exact ⟨ret_bool HT.out.symm, HB.out⟩
        · have HT : Hid (r = false) := by show _ = _; rw [HS.out, decide_eq_false h32]
          have i1 : ((out.length : Int) == 32) = false := by rw [beq_eq_false_iff_ne]; omega
          clear hl32 h32
          go_wp2_with fail
          go_ret
          exact ⟨ret_bool HT.out.symm, HB.out⟩
      · have HT : Hid (r = false) := by show _ = _; rw [HR.out, mayS_none hno]
        have HB := Lib.hid hb1
        clear hb1 hno HU
        go_wp2_with fail
        go_ret
        exact ⟨ret_bool HT.out.symm, HB.out⟩
    · have hb2 : (m == [83, 50, 53, 54]) = false := by simpa using (show m ≠ [83, 50, 53, 54] from hm)
      have HR : Hid (mayP c m = false) := by show _ = _; unfold mayP; rw [if_neg hp, decide_eq_false hm]; rfl
      obtain ⟨r, hr⟩ : ∃ r, mayP c m = r := ⟨_, rfl⟩
      rw [hr] at HR ⊢
      unfold txt at *
      clear hr hp hm
      go_enter Tryz.func83, Tryz.ntmps83
      go_wp2_with fail
      refine HU.out.mono ?_
      rintro e w1 (⟨out, v, ho, rfl, hown, hb1⟩ | ⟨hno, rfl, hb1⟩)
      · have HB := Lib.hid hb1
        clear hb1 HU hown
        go_wp2_with fail
        go_ret
        exact ⟨ret_bool HR.out.symm, HB.out⟩
      · have HB := Lib.hid hb1
        clear hb1 HU
        go_wp2_with fail
        go_ret
        exact ⟨ret_bool HR.out.symm, HB.out⟩
end Go.Proofs.YthagdkipipldlaaGreatDoor.pkc

namespace Go.Proofs.YthagdkipipldlaaGreatDoor.pkc
open Go.RowKit
open Go.Proofs.YthagdkipipldlaaGreatDoor.oct Go.Proofs.YthagdkipipldlaaGreatDoor.ref Go.Proofs.YthagdkipipldlaaGreatDoor.rows Go.Proofs.YthagdkipipldlaaGreatDoor.sha
open Go.Lib (byteCells)

/-- a text as a new row of bytes -/
theorem conv_row (l : T) (w : World) : ∃ W cp, (convert 9 125 (.string ⟨l.toArray⟩)).run Tryz.prog w = .ok (.slice (some ⟨w.heap.size, 0, none⟩) l.length cp) W ∧ In8 W (some ⟨w.heap.size, 0, none⟩) l ∧ l.length ≤ cp ∧ Below w.heap.size w W := by
  have h := Lib.run_convert_string_bytes (P := Tryz.prog) w 9 125 5 ⟨l.toArray⟩ Tryz.underlying9 Tryz.underlying125 Tryz.underlying5
  have hs : (⟨l.toArray⟩ : ByteArray).size = l.length := List.size_toArray
  refine ⟨_, _, by rw [h, hs], fun _ => ⟨w.heap.size, 0, rfl, fun i hi => ?_⟩, grownCap_ge _ _ _ _, Lib.bytesWorld_below w _ _⟩
  rw [Nat.zero_add]
  have hc := Lib.bytesWorld_cell w 5 ⟨l.toArray⟩ i (by rw [hs]; exact hi)
  rw [hc]
theorem infoB8 : (Tryz.prog.info? 5).map (·.size) = some 1 := by kernel_rfl
/-- an array behind a pointer, whole -/
theorem arr_all {P : Program} (w : World) (t e : TypeId) (n b o : Nat) (hu : P.underlying t = some (.array n e)) (he : (P.info? e).map (·.size) = some 1) :
    (Instr.sliceAt t (.pointer (some ⟨b, o, none⟩)) none none none).run P w = .ok (.slice (some ⟨b, o, none⟩) n n) w := by
  cases hq : P.info? e with
  | none => simp [hq] at he
  | some j =>
    simp [Instr.sliceAt, Instr.sureAddr, run_underlying hu, Instr.sliceBounds, sizeOf, typeInfo, hq, Sem.run_bind, Addr.add]
theorem infoD3 : (Tryz.prog.info? 141).map (·.size) = some 32 := by kernel_rfl
set_option maxRecDepth 100000 in
set_option maxHeartbeats 4000000 in
theorem rchal_c (v m : T) (w : World) (hl : v.length ≤ 140737488351232) :
    Calls Tryz.prog 95 #[txt v, txt m] w fun e w' => e = .returned (.tuple #[txt (chalP v m).2, .int .i64 ((chalP v m).1 : Nat)]) ∧ Below w.heap.size w w' := by
  have HV := Lib.hid (rverT_c v w)
  by_cases hp : m = plainM
  · cases hv : verB v with
    | false =>
      have hc := chal_bad (Or.inl hp) hv
      rw [hv] at HV
      subst hp
      rw [hc]
      unfold txt plainM at *
      clear hc hv
      go_enter Tryz.func95, Tryz.ntmps95
      go_wp2_with (go_at_call 101; refine HV.out.mono ?_; rintro e w' ⟨rfl, rfl⟩)
      go_ret2
      exact ⟨rfl, Below.refl _ _⟩
    | true =>
      have hc := chal_plain hv
      rw [hv] at HV
      subst hp
      rw [hc]
      unfold txt plainM at *
      clear hc hv
      go_enter Tryz.func95, Tryz.ntmps95
      go_wp2_with (go_at_call 101; refine HV.out.mono ?_; rintro e w' ⟨rfl, rfl⟩)
      go_ret2
      exact ⟨rfl, Below.refl _ _⟩
  · by_cases hm : m = hashM
    · cases hv : verB v with
      | false =>
        have hc := chal_bad (Or.inr hm) hv
        rw [hv] at HV
        subst hm
        rw [hc]
        unfold txt hashM at *
        clear hp hc hv
        go_enter Tryz.func95, Tryz.ntmps95
        go_wp2_with (go_at_call 101; refine HV.out.mono ?_; rintro e w' ⟨rfl, rfl⟩)
        go_ret2
        exact ⟨rfl, Below.refl _ _⟩
      | true =>
        have hc := chal_hash hv
        rw [hv] at HV
        subst hm
        rw [hc]
        obtain ⟨W, cp, hcv, h8, hcp, hbW⟩ := conv_row v w
        have hvl := (ver_len hv).2
        have HS := Lib.hid (rsum_c (some ⟨w.heap.size, 0, none⟩) cp v W h8 (by omega) (fun h => by cases h))
        have HBW := Lib.hid hbW
        have hdl := digest_len v
        have HH : Hid (hashT v = webT (digest v)) := rfl
        have HNL : Hid (32 = (byteCells (digest v)).length) := by show _ = _; rw [byteCells_len, hdl]
        have HI : Hid ((Tryz.prog.info? 141).map (·.size) = some (byteCells (digest v)).length) := by show _ = _; rw [byteCells_len, hdl]; exact infoD3
        have HO := Lib.hid (bytes_one (digest v))
        obtain ⟨D, hD⟩ : ∃ D, digest v = D := ⟨_, rfl⟩
        obtain ⟨X, hX⟩ : ∃ X, hashT v = X := ⟨_, rfl⟩
        rw [hD] at HS hdl HNL HI HO HH
        rw [hX] at HH ⊢
        have HDL := Lib.hid hdl
        unfold txt hashM at *
        clear hp hc hv h8 hbW hD hX hdl
        go_enter Tryz.func95, Tryz.ntmps95
        go_wp2_with (go_at_call 101; refine HV.out.mono ?_; rintro e w' ⟨rfl, rfl⟩)
        refine HS.out.mono ?_
        rintro e w1 ⟨rfl, hb1⟩
        have HB1 := Lib.hid (bnext HBW.out hb1)
        have har := fun (w : World) (b o : Nat) => arr_all (P := Tryz.prog) w 141 5 32 b o Tryz.underlying141 infoB8
        clear hb1 HS HV hcv
        go_wp2_with ((with_reducible refine wpList_store_new rfl 141 (.tmp 6) (.tmp 21) rfl (byteCells D) 141 _ rfl rfl HI.out (Eq.trans (by decide) HNL.out) HO.out ?_); intro w2 hS hSb hz; clear hz; have H8 := Lib.hid (in8_all hS); have hb2 := Lib.hid (bnext HB1.out hSb); clear hS hSb)
        have HWB := Lib.hid (rweb_c (some ⟨w1.heap.size, 0, none⟩) 32 D w2 H8.out (by rw [HDL.out]; decide))
        rw [HDL.out, ← HH.out] at HWB
        refine HWB.out.mono ?_
        rintro e w3 ⟨rfl, hb3⟩
        go_wp2_with fail
        go_ret2
        exact ⟨rfl, bnext hb2.out hb3⟩
    · have hc := chal_none (v := v) hp hm
      have hb : (m == [112, 108, 97, 105, 110]) = false := by simpa using (show m ≠ [112, 108, 97, 105, 110] from hp)
      have hb2 : (m == [83, 50, 53, 54]) = false := by simpa using (show m ≠ [83, 50, 53, 54] from hm)
      have hb3 : (m != [112, 108, 97, 105, 110]) = true := by rw [bne, hb]; rfl
      have hb4 : (m != [83, 50, 53, 54]) = true := by rw [bne, hb2]; rfl
      rw [hc]
      unfold txt at *
      clear hc hp hm HV
      go_enter Tryz.func95, Tryz.ntmps95
      go_wp2_with fail
      go_ret2
      exact ⟨rfl, Below.refl _ _⟩
set_option maxRecDepth 100000 in
set_option maxHeartbeats 4000000 in
theorem rcheck_c (c m v : T) (w : World) (hl : v.length ≤ 140737488351232) :
    Calls Tryz.prog 68 #[txt c, txt m, txt v] w fun e w' => e = .returned (.bool (checkP c m v)) ∧ Below w.heap.size w w' := by
  have HC := Lib.hid (rchal_c v m w hl)
  have HR : Hid (checkP c m v = (decide ((chalP v m).1 = 0) && decide ((chalP v m).2 = c))) := rfl
  obtain ⟨q, hq⟩ : ∃ q, (chalP v m).1 = q := ⟨_, rfl⟩
  obtain ⟨X, hX⟩ : ∃ X, (chalP v m).2 = X := ⟨_, rfl⟩
  obtain ⟨r, hr⟩ : ∃ r, checkP c m v = r := ⟨_, rfl⟩
  rw [hq, hX] at HC HR
  rw [hr] at HR ⊢
  unfold txt at *
  clear hq hX hr
  by_cases h0 : q = 0
  · subst h0
    by_cases hc : X = c
    · have HT : Hid (r = true) := by show _ = _; rw [HR.out, decide_eq_true hc]; rfl
      subst hc
      have hb : (X == X) = true := by simp
      go_enter Tryz.func68, Tryz.ntmps68
      go_wp2_with (go_at_call 95; refine HC.out.mono ?_; rintro e w1 ⟨rfl, hb1⟩)
      go_ret
      exact ⟨ret_bool HT.out.symm, hb1⟩
    · have HT : Hid (r = false) := by show _ = _; rw [HR.out, decide_eq_false hc]; rfl
      have hb : (X == c) = false := by simpa using hc
      go_enter Tryz.func68, Tryz.ntmps68
      go_wp2_with (go_at_call 95; refine HC.out.mono ?_; rintro e w1 ⟨rfl, hb1⟩)
      go_ret
      exact ⟨ret_bool HT.out.symm, hb1⟩
  · have HT : Hid (r = false) := by show _ = _; rw [HR.out, decide_eq_false h0]; rfl
    have hb : ((q : Int) == 0) = false := by rw [beq_eq_false_iff_ne]; omega
    clear h0
    go_enter Tryz.func68, Tryz.ntmps68
    go_wp2_with (go_at_call 95; refine HC.out.mono ?_; rintro e w1 ⟨rfl, hb1⟩)
    go_ret
    exact ⟨ret_bool HT.out.symm, hb1⟩
end Go.Proofs.YthagdkipipldlaaGreatDoor.pkc
