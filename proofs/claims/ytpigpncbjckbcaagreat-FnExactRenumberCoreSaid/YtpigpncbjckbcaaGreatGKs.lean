/-
  SubstituteCore: how large what is put in can be; the calls that the tests make.
-/
import Derived.Test.YtpigpncbjckbcaaGreatKrp
import Derived.Test.YtpigpncbjckbcaaGreatGSi
import Derived.Test.YtpigpncbjckbcaaGreatKoBnds
import Derived.Test.YtpigpncbjckbcaaGreatKvBC
import Derived.Test.YtpigpncbjckbcaaGreatGKv
import Derived.Test.YtpigpncbjckbcaaGreatScSets
import Derived.Test.YtpigpncbjckbcaaGreatNear
import Derived.Deep.RegionHeld3
namespace Go.Proofs.YtpigpncbjckbcaaGreat
open Go.RowKit
mutual
theorem Tr.binders_of_er : ∀ d e : Tr Ko, d.er Ko.er = e.er Ko.er → Tr.binders d = Tr.binders e
  | .mk a A c l, .mk b A' c' m => fun h => by
    simp only [Tr.er, Tr.mk.injEq] at h
    have h2 := Tr.bindersL_of_er l m h.2.2.2
    have h3 : a.s = b.s := by have := h.1; simp only [Ko.er, Ko.mk.injEq] at this; exact this.2.2.2.2.1
    simp only [Tr.binders, h2, h3]
theorem Tr.bindersL_of_er : ∀ l m : List (Tr Ko), Tr.erL Ko.er l = Tr.erL Ko.er m → Tr.bindersL l = Tr.bindersL m
  | [], [] => fun _ => rfl
  | [], _ :: _ => fun h => by simp [Tr.erL] at h
  | _ :: _, [] => fun h => by simp [Tr.erL] at h
  | d :: r, e :: s => fun h => by
    simp only [Tr.erL, List.cons.injEq] at h
    simp only [Tr.bindersL, Tr.binders_of_er d e h.1, Tr.bindersL_of_er r s h.2]
end
theorem specBnd0_any (d : Tr Ko) (B : Nat) (w : World) (hin : Ko.E.In w B d) (hB : B ≤ w.heap.size) (hb : d.bulk Ko.bulk ≤ 1500000) : Calls Tryz.prog 45 #[Ko.val d, .slice none 0 0] w (RetI (Tr.binders d) w) := by
  have h := specBnd_any d.size d B w.heap.size [] (.slice none 0 0) w (Nat.le_refl _) hin hB (Nat.le_refl _) (World.ownsRow_nil _ _ _ _) (by simp; omega)
  rw [Tr.walk_binders, List.nil_append] at h
  refine h.mono fun e w' hh => ?_
  obtain ⟨v', rfl, hg⟩ := hh
  obtain ⟨A, c, rfl, ho⟩ := own_of_row hg.1
  exact ⟨A, c, rfl, ho, hg.below (by simp) (by simp [Value.ownBlock]) (Nat.le_refl _)⟩
end Go.Proofs.YtpigpncbjckbcaaGreat
namespace Go.Proofs.YtpigpncbjckbcaaGreat
open Go.RowKit
end Go.Proofs.YtpigpncbjckbcaaGreat
namespace Go.Proofs.YtpigpncbjckbcaaGreat
open Go.RowKit Go.Maps Go.WideMaps Go.ChangeMaps
end Go.Proofs.YtpigpncbjckbcaaGreat
