/- Nine cells of the third box. -/
import Derived.Test.YtcffomhcmilcpaaGreatM8g
namespace Go.Proofs.YtcffomhcmilcpaaGreat
open Go.RowKit Go.Maps
set_option linter.unusedSimpArgs false
set_option linter.unusedVariables false
set_option maxRecDepth 100000

theorem nine_n {w W : World} {q : Nat} {cs zs ns : Array Value} (h : ThreeB w W q cs zs ns) (hz : ns.size = 9) (v0 v1 v2 v3 v4 v5 v6 v7 v8 : Value) : ThreeB w (((((((((W.setCell ⟨q, 0, none⟩ v0).setCell ⟨q, 1, none⟩ v1).setCell ⟨q, 2, none⟩ v2).setCell ⟨q, 3, none⟩ v3).setCell ⟨q, 4, none⟩ v4).setCell ⟨q, 5, none⟩ v5).setCell ⟨q, 6, none⟩ v6).setCell ⟨q, 7, none⟩ v7).setCell ⟨q, 8, none⟩ v8) q cs zs #[v0, v1, v2, v3, v4, v5, v6, v7, v8] := by
  obtain ⟨l⟩ := ns
  match l, hz, h with
  | [z0, z1, z2, z3, z4, z5, z6, z7, z8], _, h =>
    have h0 : ThreeB w _ q cs zs #[v0, z1, z2, z3, z4, z5, z6, z7, z8] := h.setn 0 v0
    have h1 : ThreeB w _ q cs zs #[v0, v1, z2, z3, z4, z5, z6, z7, z8] := h0.setn 1 v1
    have h2 : ThreeB w _ q cs zs #[v0, v1, v2, z3, z4, z5, z6, z7, z8] := h1.setn 2 v2
    have h3 : ThreeB w _ q cs zs #[v0, v1, v2, v3, z4, z5, z6, z7, z8] := h2.setn 3 v3
    have h4 : ThreeB w _ q cs zs #[v0, v1, v2, v3, v4, z5, z6, z7, z8] := h3.setn 4 v4
    have h5 : ThreeB w _ q cs zs #[v0, v1, v2, v3, v4, v5, z6, z7, z8] := h4.setn 5 v5
    have h6 : ThreeB w _ q cs zs #[v0, v1, v2, v3, v4, v5, v6, z7, z8] := h5.setn 6 v6
    have h7 : ThreeB w _ q cs zs #[v0, v1, v2, v3, v4, v5, v6, v7, z8] := h6.setn 7 v7
    have h8 : ThreeB w _ q cs zs #[v0, v1, v2, v3, v4, v5, v6, v7, v8] := h7.setn 8 v8
    exact h8
theorem LN.nine {w W : World} {q : Nat} {v : Value} {l : List Int} (h : LN w W q v l) (v0 v1 v2 v3 v4 v5 v6 v7 v8 : Value) : LN w (((((((((W.setCell ⟨q, 0, none⟩ v0).setCell ⟨q, 1, none⟩ v1).setCell ⟨q, 2, none⟩ v2).setCell ⟨q, 3, none⟩ v3).setCell ⟨q, 4, none⟩ v4).setCell ⟨q, 5, none⟩ v5).setCell ⟨q, 6, none⟩ v6).setCell ⟨q, 7, none⟩ v7).setCell ⟨q, 8, none⟩ v8) q v l := by
  obtain ⟨h1, h2⟩ := nine_off W q v0 v1 v2 v3 v4 v5 v6 v7 v8
  exact ⟨h.1.off (q := q) (h.2.mono fun b hb => hb.2) h1 h2, h.2⟩
theorem ThreeB.drew {w W : World} {q : Nat} {cs zs ns : Array Value} (h : ThreeB w W q cs zs ns) : ThreeB w W.drew q cs zs ns := h.next (Below.refl _ _).drew
end Go.Proofs.YtcffomhcmilcpaaGreat
