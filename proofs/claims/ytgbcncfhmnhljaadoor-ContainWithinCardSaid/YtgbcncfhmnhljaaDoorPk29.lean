/-
  The reference's times.
-/
import Derived.Deep.CutBlock
import Derived.Deep.DeepCutAuto
import Derived.Test.YtgbcncfhmnhljaaDoorPk10
namespace Go.Proofs.YtgbcncfhmnhljaaDoor
open Go Go.RowKit Sh Leaf

/-- k lies in one of the spans. -/
def spb (l : List (Int × Int)) (k : Int) : Bool := l.any fun s => decide (s.1 ≤ k ∧ k ≤ s.2)
theorem spb_iff (l : List (Int × Int)) (k : Int) : spb l k = true ↔ spm l k := by
  unfold spb spm
  rw [List.any_eq_true]
  simp only [decide_eq_true_eq]
theorem spb_snoc (l : List (Int × Int)) (s : Int × Int) (k : Int) : spb (l ++ [s]) k = (spb l k || decide (s.1 ≤ k ∧ k ≤ s.2)) := by
  unfold spb
  simp [List.any_append]
theorem tk_snoc {α : Type} (l : List α) (i : Nat) (p : α) (h : l[i]? = some p) : l.take (i + 1) = l.take i ++ [p] := by
  rw [List.take_add_one, h]; rfl
/-- Spans within the day. -/
def inday (l : List (Int × Int)) : Prop := ∀ s ∈ l, 0 ≤ s.1 ∧ s.1 ≤ s.2 ∧ s.2 < 1440
set_option maxRecDepth 100000 in
set_option maxHeartbeats 2000000 in
theorem ttimes {Q : Nat → Prop} (no : Bool) (z l d : Nat) (lo hi : Int) (A : Option Addr) (c : Nat) (s : List (Int × Int)) (nm : List B8) (w : World) (hS0 : Spn w Q A c s) (hd : inday s) :
    Calls Tryd.prog 24 #[.agg (arow no z l d lo hi (.slice A s.length c) nm)] w fun e w' => e = .returned (.pointer (some ⟨w.heap.size + 1, 0, none⟩)) ∧ TRow w' (w.heap.size + 1) lo hi d (fun k => spb s k) ∧ Below w.heap.size w w' := by
  have hS : Spn w (fun b => b < w.heap.size) A c s := hS0.mono fun g hg _ => hg
  have hb := ab_below w
  have hls : s.length ≤ 9223372036854775807 := by have := hS.1; have := hS.2.1; unfold maxLen at this; omega
  obtain ⟨n, hn⟩ : ∃ n, n = s.length := ⟨_, rfl⟩
  rw [← hn] at hls ⊢
  have HN := Lib.hid hn
  have HS := Lib.hid hS
  clear hn hS0 hS
  have HR : Hid (ARow ((w.alloc (.cells (arow no z l d lo hi (.slice A n c) nm) 25)).alloc (.cells (trow lo hi d fun _ => false) 69)) w.heap.size no z l d lo hi (.slice A n c) nm) := Lib.hid ((Whole.here _ _ _).alloc _)
  have HT : Hid (TRow ((w.alloc (.cells (arow no z l d lo hi (.slice A n c) nm) 25)).alloc (.cells (trow lo hi d fun _ => false) 69)) (w.heap.size + 1) lo hi d fun _ => false) := Lib.hid (Whole.at_ _ _ _ _ (by simp))
  go_enter Tryd.func24, Tryd.ntmps24
  go_wp2_with (first
    | (with_reducible refine wpList_build_tim (f := lo) (l := hi) (d := d) rfl _ _ _ rfl rfl rfl rfl ?_)
    | (with_reducible refine wpList_box_tim (f := lo) (l := hi) (d := d) (M := fun _ => false) rfl _ rfl rfl ?_))
  go_loopw [4] (fun i wr => ∃ j : Nat, i = .int .i64 j ∧ j ≤ n ∧ ARow wr w.heap.size no z l d lo hi (.slice A n c) nm ∧ TRow wr (w.heap.size + 1) lo hi d (fun k => spb (s.take j) k) ∧ Below w.heap.size w wr) (fun i _ => n - (intOf i).toNat)
  case atStart => exact ⟨0, rfl, by omega, HR.out, HT.out.congr fun k _ => rfl, hb _ _⟩
  case round =>
    obtain ⟨j, rfl, hj, hr, ht, hbw⟩ := hrel
    obtain ⟨x0, x1, x2, x3, x4, x5, x6, x7⟩ := hr.cells
    clear x0 x1 x2 x3 x4 x5 x7 hb
    have HX := Lib.hid hr
    have HY := Lib.hid ht
    have HB := Lib.hid hbw
    clear hr ht hbw HR HT
    by_cases hlt : j < n
    · obtain ⟨⟨p1, p2⟩, hp⟩ : ∃ p, s[j]? = some p := ⟨_, List.getElem?_eq_getElem (by have := HN.out; omega)⟩
      obtain ⟨g, o, rfl, hgw, hg, e1, e2⟩ := Spn.get (Seq.low HS.out HB.out) j _ hp
      obtain ⟨hin0, hin1, hin2⟩ := hd _ (List.mem_of_getElem? hp)
      have HP := Lib.hid (tk_snoc s j _ hp)
      simp only at e1 e2 hin0 hin1 hin2
      clear hp hd
      go_wp2_with fail
      go_loopw [5] (fun kk wr' => ∃ k : Nat, kk = .int .i64 k ∧ p1 ≤ (k : Int) ∧ (k : Int) ≤ p2 + 1 ∧ ARow wr' w.heap.size no z l d lo hi (.slice (some ⟨g, o, none⟩) n c) nm ∧ TRow wr' (w.heap.size + 1) lo hi d (fun x => spb (s.take j) x || decide (p1 ≤ (x : Int) ∧ x < k)) ∧ Below w.heap.size w wr' ∧ wr'.cell? ⟨g, o + j * 2 + 1, none⟩ = some (.int .i64 p2)) (fun kk _ => (p2 + 1 - intOf kk).toNat)
      case atStart =>
        refine ⟨p1.toNat, by rw [Int.toNat_of_nonneg hin0], by omega, by omega, HX.out, HY.out.congr fun x _ => ?_, HB.out, e2⟩
        rw [decide_eq_false (by omega), Bool.or_false]
      case round =>
        obtain ⟨k, rfl, hk0, hk1, hr, ht, hbw, e2'⟩ := hrel
        obtain ⟨x0, x1, x2, x3, x4, x5, x6', x7⟩ := hr.cells
        clear x0 x1 x2 x3 x4 x5 x7 e1 e2 x6 HX HY HB
        have hlw := ht.lt
        by_cases hkk : (k : Int) ≤ p2
        · have k0 : (0 : Int) ≤ (k : Int) := by omega
          have k1 : (k : Int) < 1440 := by omega
          have cm := ht.m k (by omega)
          have cf := Whole.frozen ht (3 + k)
          have hset := ht.setm k (by omega) true
          have hr' := Whole.far hr (a := ⟨w.heap.size + 1, 3 + k, none⟩) (by show w.heap.size ≠ w.heap.size + 1; omega) (.bool true)
          have hb' : Below w.heap.size w (wr.setCell ⟨w.heap.size + 1, 3 + k, none⟩ (.bool true)) := hbw.setCell (p := ⟨w.heap.size + 1, 3 + k, none⟩) (by show w.heap.size ≤ w.heap.size + 1; omega) _
          have e2n : (wr.setCell ⟨w.heap.size + 1, 3 + k, none⟩ (.bool true)).cell? ⟨g, o + j * 2 + 1, none⟩ = some (.int .i64 p2) := (World.cell?_setCell_far wr ⟨w.heap.size + 1, 3 + k, none⟩ ⟨g, o + j * 2 + 1, none⟩ (.bool true) (by show w.heap.size + 1 ≠ g; omega)).trans e2'
          have HX := Lib.hid hr'
          have HY := Lib.hid hset
          have HB := Lib.hid hb'
          have HE := Lib.hid e2n
          clear hr hr' ht hset hbw hb' e2n
          go_wp2_with fail
          go_roundw
          case rel =>
            refine ⟨k + 1, by go_num, by omega, by omega, HX.out, HY.out.congr fun x _ => ?_, HB.out, HE.out⟩
            by_cases e : x = k
            · subst e
              rw [if_pos rfl, decide_eq_true (by omega), Bool.or_true]
            · rw [if_neg e]
              congr 1
              exact decide_eq_decide.2 (by omega)
          case measure => simp [intOf]; omega
        · have HX := Lib.hid hr
          have HY := Lib.hid ht
          have HB := Lib.hid hbw
          clear hr ht hbw
          go_wp2_with fail
          go_roundw
          case rel =>
            refine ⟨j + 1, by go_num, by omega, HX.out, HY.out.congr fun x _ => ?_, HB.out⟩
            rw [HP.out, spb_snoc]
            congr 1
            exact decide_eq_decide.2 (by simp only; omega)
          case measure => simp [intOf]; omega
    · obtain rfl : j = n := by omega
      have HF : Hid (TRow wr (w.heap.size + 1) lo hi d fun k => spb s k) := Lib.hid (by
        have := HY.out
        rw [HN.out, List.take_length] at this
        exact this)
      clear HY
      go_wp2
      go_ret
      exact ⟨rfl, HF.out, HB.out⟩
end Go.Proofs.YtgbcncfhmnhljaaDoor
