/-
  Package hmac: purpose, the message of a derived key.
-/
import Derived.Test.YtbbpdcnmoabooaaDoorHmacLabel
import Derived.Test.YtbbpdcnmoabooaaDoorHmacMark
namespace Go.Proofs.YtbbpdcnmoabooaaDoor
open Go Go.RowKit Sh Leaf

theorem wpList_append_mark {w : World} {ops : Array Oper} {rest : List Oper} {o : Oper} {a : Act} {R : Exit → Act → World → Prop} (hgd : o.guard = none) (s x : Operand)
    (ho : o.op = .call { callee := .builtin .append, args := #[s, x], argTypes := #[22, 22] })
    (base : Nat) (v : Value) (xs : List B8) (hs : a.eval s = v) (hown : OwnM w base v xs)
    (Q : Nat → Prop) (v2 : Value) (ys : List B8) (hx : a.eval x = v2) (hr : Bytes w Q v2 ys) (h0 : 0 < ys.length) (h47 : xs.length + ys.length ≤ 1000000) (hbase : base ≤ w.heap.size)
    (h : ∀ v' w', OwnM w' base v' (xs ++ ys) → Below base w w' → wpList Tryd.prog ops R rest (a.put o.dst v') w') : wpList Tryd.prog ops R (o :: rest) a w := by
  obtain ⟨v', w', hrun, h1, h2⟩ := run_append_mark o.type base v xs hown Q v2 ys hr h0 h47 hbase
  refine wpList_plain hgd fun K hK => ?_
  unfold Oper.wp
  simp [execOp, ho, resolve, invoke, builtin, hs, hx, hrun, Result.andThen]
  exact hK _ _ (h v' w' h1 h2)

/-- What a derived key is the tag of. -/
def purp (s : ByteArray) (n : Nat) : List B8 := sbytes s ++ [0] ++ beBytes n 8
theorem purp_length (s : ByteArray) (n : Nat) : (purp s n).length = s.size + 9 := by simp [purp, sbytes_length, beBytes_length]

set_option maxHeartbeats 1000000 in
theorem purpose (s : ByteArray) (hs : s.size ≤ 100000) (n : Nat) (w : World) :
    Calls Tryd.prog 44 #[.string s, .int .i64 n] w fun e w' => ∃ v', e = .returned v' ∧ Bytes w' (fun g => w.heap.size ≤ g) v' (purp s n) ∧ Below w.heap.size w w' := by
  obtain ⟨v0, w0, hc, hown, hb⟩ := run_str_bytes s (by omega) w
  have hb0 := bytes_one w0 0 0 bv_zero.symm
  have hs0 := hb.size
  have hsl := sbytes_length s
  go_enter Tryd.func44, Tryd.ntmps44
  go_wp2_with (at_builtin; refine wpList_append_mark rfl _ _ rfl w.heap.size v0 (sbytes s) rfl (hown.alloc _) _ _ [0] rfl hb0 (by simp) (by simp; omega) (by simp; omega) ?_; intro v1 w1 hown1 hb1)
  have hq1 := ((hb.alloc (by omega) (.cells #[.int .u8 0] 5))).trans hb1
  obtain ⟨L, hL⟩ : ∃ L, L = sbytes s ++ [0] := ⟨_, rfl⟩
  have hLl : L.length = s.size + 1 := by rw [hL]; simp [hsl]
  rw [← hL] at hown1
  have HL := Lib.hid hL
  clear hc hown hb hb0 hs0 hsl hb1 hL
  go_loopw [5, 6] (fun vm i wr => ∃ k : Nat, k ≤ 8 ∧ i = .int .i64 (56 - 8 * (k : Int)) ∧ OwnM wr w.heap.size vm (L ++ (beBytes n 8).take k) ∧ Below w.heap.size w wr) (fun _ i _ => (intOf i + 8).toNat)
  case atStart => exact ⟨0, by omega, rfl, by simpa using hown1, hq1⟩
  case round =>
    clear hown1 hq1
    obtain ⟨k, hk, rfl, hown, hbr⟩ := hrel
    by_cases hlt : k < 8
    · have hl : ((beBytes n 8).take k).length ≤ 8 := by simp [List.length_take, beBytes_length]; omega
      have hbs := hbr.size
      have hz := be_byte n (7 - k)
      rw [show 8 * (7 - k) = 56 - 8 * k by omega] at hz
      have i0 : (0 : Int) ≤ 56 - 8 * (k : Int) := by omega
      have HZ := Lib.hid hz
      clear hz
      have hLk : (L ++ (beBytes n 8).take k).length ≤ 200000 := by rw [List.length_append]; omega
      go_wp2_with (at_builtin; refine wpList_append_mark rfl _ _ rfl w.heap.size _ (L ++ (beBytes n 8).take k) rfl (hown.alloc _) _ (.slice (some ⟨wr.heap.size, 0, none⟩) 1 1) _ rfl (bytes_one wr _ _ HZ.out) (by simp) (by simp only [List.length_singleton]; omega) (by simp; omega) ?_; intro v' w' h1 h2)
      go_roundw
      case rel =>
        refine ⟨k + 1, by omega, by go_num, ?_, (hbr.alloc (by omega) _).trans h2⟩
        rw [beBytes_take_succ n 8 k hlt, ← List.append_assoc]; exact h1
      case measure => simp [intOf]; omega
    · have ek : (beBytes n 8).take k = beBytes n 8 := List.take_of_length_le (by rw [beBytes_length]; omega)
      rw [ek, HL.out] at hown
      have hby := hown.bytes
      have HBY := Lib.hid hby
      clear ek hown hby
      go_wp2
      go_ret
      exact ⟨_, rfl, HBY.out, hbr⟩
end Go.Proofs.YtbbpdcnmoabooaaDoor
