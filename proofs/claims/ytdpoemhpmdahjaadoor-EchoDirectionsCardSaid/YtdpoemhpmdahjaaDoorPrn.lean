/- Contracts: the check over an image, numbers appended to a text. -/
import Derived.Test.YtdpoemhpmdahjaaDoorChk
import Derived.Test.YtdpoemhpmdahjaaDoorShelf
import Derived.Deep.RegionHeld3
import Derived.BigRegion
import Derived.Deep.LoopGhost
import Derived.Lib.ItoaLen
import Derived.Lib.SlBytesConst
import Derived.Laws.BytesArg
namespace Go.Proofs.YtdpoemhpmdahjaaDoor
open Go.RowKit
set_option maxHeartbeats 400000
set_option maxRecDepth 100000

def chkStep (c x : Int) : Int := (31 * c + x + 2047 + 1) % 65521
def chkI (X Y : Nat → Int) : Nat → Int
  | 0 => 0
  | k + 1 => chkStep (chkStep (chkI X Y k) (X k)) (Y k)
theorem chkStep_range (c x : Int) : 0 ≤ chkStep c x ∧ chkStep c x ≤ 65520 := by unfold chkStep; omega
theorem chkI_range (X Y : Nat → Int) (k : Nat) : 0 ≤ chkI X Y k ∧ chkI X Y k ≤ 65520 := by
  cases k with
  | zero => simp [chkI]
  | succ k => exact chkStep_range _ _

theorem addToCheck_any (c x : Int) (h0 : 0 ≤ c) (h1 : c ≤ 65520) (h2 : -2047 ≤ x) (h3 : x ≤ 2047) (w : World) :
    Calls Tryd.prog 127 #[.int .i64 c, .int .i64 x] w fun e w' => e = .returned (.int .i64 (chkStep c x)) ∧ w = w' := by
  have hf : chkStep c x = (31 * c + x + 2047 + 1) % 65521 := rfl
  rw [hf]
  clear hf
  go_enter Tryd.func127, Tryd.ntmps127
  go_wp2
  go_ret
  exact ⟨rfl, rfl⟩

theorem checkOf_ok (A : Option Addr) (L S n c : Nat) (re im : Nat → Nat) (X Y : Nat → Int) (w : World) (hs : Sl w A n (cx .f32 re im)) (hw : Wh .f32 re im X Y n 2047) (hn : n ≤ 4096) :
    Calls Tryd.prog 115 #[.agg #[.int .i64 (L : Int), .int .i64 (S : Int), .slice A n c]] w fun e w' => e = .returned (.int .i64 (chkI X Y n)) ∧ Below w.heap.size w w' := by
  have HS := Lib.hid (hs.alloc (.cells #[.int .i64 (L : Int), .int .i64 (S : Int), .slice A n c] 32))
  have HW := Lib.hid hw
  clear hs hw
  go_enter Tryd.func115, Tryd.ntmps115
  go_wp2
  go_loop [3, 11] (fun t i => ∃ k : Nat, k ≤ n ∧ i = .int .i64 (k : Int) ∧ t = .int .i64 (chkI X Y k)) (fun _ i => n - (intOf i).toNat)
  case atStart => exact ⟨0, Nat.zero_le _, rfl, rfl⟩
  case round =>
    obtain ⟨k, hk, rfl, rfl⟩ := hrel
    by_cases hlt : k < n
    · obtain ⟨b, off, rfl, _, hc⟩ := HS.out (by omega)
      obtain ⟨h1, h2, h3, h4⟩ := HW.out k hlt
      obtain ⟨r, s, hrun, g1, g2⟩ := widen_run _ _ _ _ h1 h2 (by omega) (by omega)
      have hcell := hc k hlt
      unfold cx at hcell
      have G1 := Lib.hid g1
      have G2 := Lib.hid g2
      have H3 := Lib.hid h3
      have H4 := Lib.hid h4
      obtain ⟨r0, r1⟩ := chkI_range X Y k
      obtain ⟨q0, q1⟩ := chkStep_range (chkI X Y k) (X k)
      have R0 := Lib.hid r0
      have R1 := Lib.hid r1
      have Q0 := Lib.hid q0
      have Q1 := Lib.hid q1
      clear hc h1 h2 g1 g2 h3 h4 r0 r1 q0 q1
      go_wp2_with fail
      refine (parts_ok r s (X k) (Y k) G1.out G2.out (by have := H3.out; omega) (by have := H4.out; omega) _).mono ?_
      rintro e w' ⟨rfl, rfl⟩
      go_wp2_with fail
      refine (addToCheck_any _ _ R0.out R1.out (by have := H3.out; omega) (by have := H3.out; omega) _).mono ?_
      rintro e w' ⟨rfl, rfl⟩
      go_wp2_with fail
      refine (addToCheck_any _ _ Q0.out Q1.out (by have := H4.out; omega) (by have := H4.out; omega) _).mono ?_
      rintro e w' ⟨rfl, rfl⟩
      go_wp2_with fail
      go_round
      case rel => exact ⟨k + 1, by omega, by go_num, rfl⟩
      case measure => simp [intOf]; omega
    · go_wp2
      go_ret
      obtain rfl : k = n := by omega
      exact ⟨rfl, (Below.refl _ _).alloc (Nat.le_refl _) _⟩

/-- the slice v owns the bytes l -/
def Tx (B : Nat) (w : World) (v : Value) (l : List UInt8) : Prop := w.ownsRow B 5 1 v l.length (Lib.byteCells l)
theorem Tx.below {B : Nat} {w w' : World} {v : Value} {l : List UInt8} (h : Tx B w v l) (hb : Below w.heap.size w w') : Tx B w' v l := by
  obtain ⟨h1, h2⟩ := h
  refine ⟨h1, ?_⟩
  rcases h2 with h2 | ⟨g, cap, cur, hv, hg, hh, r⟩
  · exact Or.inl h2
  · exact Or.inr ⟨g, cap, cur, hv, hg, (hb.block g (Array.getElem?_eq_some_iff.1 hh).1).trans hh, r⟩
theorem Tx.alloc {B : Nat} {w : World} {v : Value} {l : List UInt8} (h : Tx B w v l) (o : Obj) : Tx B (w.alloc o) v l := h.below ((Below.refl _ _).alloc (Nat.le_refl _) o)

/-- the table of powers of ten, as the program lays it -/
def Tab (w : World) : Prop := Lib.TabIs Tryd.prog w "internal/strconv.uint64pow10" .u64 Lib.pow10Tab

theorem appendNumber_any (B : Nat) (v : Value) (l : List UInt8) (i : Int) (h0 : -9223372036854775808 ≤ i) (h1 : i ≤ 9223372036854775807) (w : World) (hown : Tx B w v l) (hB : B ≤ w.heap.size) (hl : l.length ≤ 1000000)
    (htab : Lib.TabBelow Tryd.prog B w "internal/strconv.uint64pow10" .u64 Lib.pow10Tab) :
    Calls Tryd.prog 116 #[v, .int .i64 i] w fun e w' => ∃ v', e = .returned v' ∧ Tx B w' v' (l ++ Lib.itoa i) ∧ Below B w w' := by
  have HA := Lib.hid (fun w' (h : w = w') => by subst h; exact Tryd.strconv_AppendInt_10 B l.length i h0 h1 v _ w hown hB (by omega) htab)
  have HH := Lib.hid h0
  have HH1 := Lib.hid h1
  clear hown htab h0 h1
  go_enter Tryd.func116, Tryd.ntmps116
  go_wp2_with fail
  refine (HA.out w rfl).mono ?_
  rintro e w1 ⟨v1, rfl, hown1, hb1, _⟩
  have HO := Lib.hid hown1
  clear hown1
  go_wp2_with fail
  go_ret
  refine ⟨v1, rfl, ?_, hb1⟩
  have h := HO.out
  unfold Tx
  rw [List.length_append, Lib.byteCells_append]
  exact h

def sepB (i S : Nat) : UInt8 := if i % S = 0 then 10 else 32
theorem sep_any (i S : Nat) (hS : 1 ≤ S) (hS2 : S ≤ 64) (hi : i ≤ 4096) (w : World) :
    Calls Tryd.prog 117 #[.int .i64 (i : Int), .int .i64 (S : Int)] w fun e w' => e = .returned (.int .u8 ((sepB i S).toNat : Int)) ∧ w = w' := by
  have hf : ((sepB i S).toNat : Int) = if i % S = 0 then 10 else 32 := by unfold sepB; split <;> rfl
  rw [hf]
  clear hf
  have e1 : ((i : Int) % (S : Int)) = ((i % S : Nat) : Int) := rfl
  by_cases h : i % S = 0
  · rw [if_pos h]
    have e2 : ((i : Int) % (S : Int) == 0) = true := by rw [beq_iff_eq, e1, h]; rfl
    clear e1 h
    go_enter Tryd.func117, Tryd.ntmps117
    go_wp2
    go_ret
    exact ⟨rfl, rfl⟩
  · rw [if_neg h]
    have e2 : ((i : Int) % (S : Int) == 0) = false := by
      rw [beq_eq_false_iff_ne, e1]; intro h'; exact h (by exact_mod_cast h')
    clear e1 h
    go_enter Tryd.func117, Tryd.ntmps117
    go_wp2
    go_ret
    exact ⟨rfl, rfl⟩

/-- the bytes of an image's text -/
def hdr (L S C : Int) : Nat → List UInt8
  | 0 => [105, 109, 97, 103, 101]
  | 1 => ([105, 109, 97, 103, 101] ++ [32]) ++ Lib.itoa L
  | 2 => ((([105, 109, 97, 103, 101] ++ [32]) ++ Lib.itoa L) ++ [32]) ++ Lib.itoa S
  | _ => ((((([105, 109, 97, 103, 101] ++ [32]) ++ Lib.itoa L) ++ [32]) ++ Lib.itoa S) ++ [32]) ++ Lib.itoa C
def body (X Y : Nat → Int) (S : Nat) (l : List UInt8) : Nat → List UInt8
  | 0 => l
  | k + 1 => (((body X Y S l k ++ [sepB k S]) ++ Lib.itoa (X k)) ++ [32]) ++ Lib.itoa (Y k)

theorem itoa_len (n : Int) (h0 : -100000 ≤ n) (h1 : n ≤ 100000) : (Lib.itoa n).length ≤ 21 := Lib.itoa_length_le n (by omega) (by omega)
theorem hdr_len (L S C : Int) (hL : 0 ≤ L ∧ L ≤ 100000) (hS : 0 ≤ S ∧ S ≤ 100000) (hC : 0 ≤ C ∧ C ≤ 100000) (k : Nat) : (hdr L S C k).length ≤ 100 := by
  have a := itoa_len L (by omega) (by omega)
  have b := itoa_len S (by omega) (by omega)
  have c := itoa_len C (by omega) (by omega)
  unfold hdr
  split <;> simp <;> omega
theorem body_len (X Y : Nat → Int) (S n : Nat) (l : List UInt8) (hl : l.length ≤ 100) (hb : ∀ i, i < n → (X i).natAbs ≤ 2047 ∧ (Y i).natAbs ≤ 2047) : ∀ k, k ≤ n → (body X Y S l k).length ≤ 100 + 44 * k := by
  intro k
  induction k with
  | zero => intro _; simpa [body] using hl
  | succ k ih =>
    intro hk
    have h := ih (by omega)
    obtain ⟨h1, h2⟩ := hb k (by omega)
    have a := itoa_len (X k) (by omega) (by omega)
    have b := itoa_len (Y k) (by omega) (by omega)
    simp only [body, List.length_append, List.length_cons, List.length_nil]
    omega

theorem infoB : (Tryd.prog.info? 5).map (fun i => (i.zero, i.size, i.bytes)) = some (some (.int .u8 0), 1, 1) := by kernel_rfl

def imgCells : List Value := [.int .u8 105, .int .u8 109, .int .u8 97, .int .u8 103, .int .u8 101]
theorem img_cell (w : World) (j : Nat) (u : Value) (hj : imgCells[j]? = some u) : (w.alloc (.cells #[.int .u8 105, .int .u8 109, .int .u8 97, .int .u8 103, .int .u8 101] 5 (5, 6))).cell? ⟨w.heap.size, j, none⟩ = some u := by
  have h : (w.alloc (.cells #[.int .u8 105, .int .u8 109, .int .u8 97, .int .u8 103, .int .u8 101] 5 (5, 6))).heap[w.heap.size]? = some (.cells #[.int .u8 105, .int .u8 109, .int .u8 97, .int .u8 103, .int .u8 101] 5 (5, 6)) := heap_alloc_new w _
  rw [cell_of_row _ _ j _ _ _ h, ← hj]
  simp [imgCells]
/-- the text so far: behind the constant word, or its own row -/
def TxK (B g : Nat) (L S C : Int) (k : Nat) (w : World) (v : Value) : Prop :=
  match k with
  | 0 => v = .slice (some ⟨g, 0, none⟩) 5 5 ∧ ∀ j u, imgCells[j]? = some u → w.cell? ⟨g, j, none⟩ = some u
  | k + 1 => Tx B w v (hdr L S C (k + 1))
theorem Tx.base {B B' : Nat} {w : World} {v : Value} {l : List UInt8} (h : Tx B' w v l) (hB : B ≤ B') : Tx B w v l := by
  obtain ⟨h1, h2⟩ := h
  refine ⟨h1, ?_⟩
  rcases h2 with h2 | ⟨g, cap, cur, hv, hg, r⟩
  · exact Or.inl h2
  · exact Or.inr ⟨g, cap, cur, hv, by omega, r⟩
theorem byte_cell (w : World) (c : Int) : ∀ (j : Nat) (u : Value), [Value.int .u8 c][j]? = some u → (w.alloc (.cells #[.int .u8 c] 5)).cell? ((⟨w.heap.size, 0, none⟩ : Addr).add j) = some u := by
  intro j u hj
  match j, hj with
  | 0, hj =>
    simp at hj
    subst hj
    have h := (At.new w 5 #[.int .u8 c]).cell 0
    simp at h
    simp [Addr.add]
theorem byte_one (c : Int) : ∀ u ∈ [Value.int .u8 c], u.oneCell' = true := by intro u hu; simp at hu; subst hu; rfl
theorem tx_of_own {B B' : Nat} {w : World} {v : Value} {l : List UInt8} {b : UInt8} {n : Nat} {xs : List Value} (h : w.ownsRow B' 5 1 v n xs) (hB : B ≤ B') (hn : n = l.length + 1) (hx : xs = Lib.byteCells l ++ [.int .u8 b.toNat]) : Tx B w v (l ++ [b]) := by
  have h2 : Tx B' w v (l ++ [b]) := by
    unfold Tx
    rw [List.length_append, Lib.byteCells_append]
    subst hn
    subst hx
    exact h
  exact h2.base hB

theorem text_of_row {B : Nat} {w : World} {v : Value} {l : List UInt8} (h : Tx B w v l) (hl : l ≠ []) : (convert 148 9 v).run Tryd.prog w = .ok (.string ⟨l.toArray⟩) w := by
  have h0 := h
  rcases h.2 with ⟨_, h2⟩ | ⟨g, cap, cur, hv, _⟩
  · exact absurd (List.eq_nil_of_length_eq_zero h2) hl
  · subst hv
    refine run_convert_bytes_back w _ _ _ ⟨g, 0, none⟩ cap l Tryd.underlying148 Tryd.underlying5 Tryd.underlying9 (fun j hj => ?_)
    refine h0.cells (g := g) rfl j _ ?_
    simp [Lib.byteCells, List.getElem?_eq_getElem hj]

theorem tab_below {w w' : World} {o : Obj} (h : Tab w) (hb : Below (w.heap.size + 1) (w.alloc o) w') : Lib.TabBelow Tryd.prog (w.heap.size + 1) w' "internal/strconv.uint64pow10" .u64 Lib.pow10Tab := by
  have h1 := Lib.tabBelow_of_tabIs h
  intro w' hw'
  have h2 : Below w.heap.size w w' := ((Below.refl _ _).alloc (Nat.le_refl _) o).trans ((hb.trans hw').mono (by omega))
  exact h1 w' h2

theorem print_ok (A : Option Addr) (L S n c : Nat) (re im : Nat → Nat) (X Y : Nat → Int) (w : World) (hs : Sl w A n (cx .f32 re im)) (hw : Wh .f32 re im X Y n 2047)
    (hL : 1 ≤ L ∧ L ≤ 64) (hS : 1 ≤ S ∧ S ≤ 64) (hn : n = L * S) (htab : Tab w) :
    Calls Tryd.prog 71 #[.agg #[.int .i64 (L : Int), .int .i64 (S : Int), .slice A n c]] w fun e w' =>
      e = .returned (.tuple #[.string ⟨(body X Y S (hdr L S (chkI X Y n) 3) n ++ [10]).toArray⟩, .int .i64 0]) ∧ Below w.heap.size w w' := by
  obtain ⟨i0, hi, hz0, hz1, hz2⟩ := info_parts infoB
  have hn4 : n ≤ 4096 := by
    have : L * S ≤ 64 * 64 := Nat.mul_le_mul hL.2 hS.2
    omega
  have HS := Lib.hid hs
  have HW := Lib.hid hw
  have HN := Lib.hid hn
  have HT := Lib.hid htab
  have HI := Lib.hid hi
  have HZ0 := Lib.hid hz0
  have HZ1 := Lib.hid hz1
  have HZ2 := Lib.hid hz2
  clear hs hw hn htab hi hz0 hz1 hz2
  go_enter Tryd.func71, Tryd.ntmps71
  go_wp2_with fail
  have b0 : Below w.heap.size w (w.alloc (.cells #[.int .i64 (L : Int), .int .i64 (S : Int), .slice A n c] 32)) := (Below.refl _ _).alloc (Nat.le_refl _) _
  refine (checkImage_ok A L S n c re im X Y _ (HS.out.below b0) HW.out hL hS HN.out).mono ?_
  rintro e w1 ⟨rfl, hb1⟩
  have A1 := (At.new w 32 #[.int .i64 (L : Int), .int .i64 (S : Int), .slice A n c]).below hb1 (by simp)
  have hw1 : Below w.heap.size w w1 := b0.trans (hb1.mono (by simp))
  have z1 := hb1.size
  simp at z1
  have c10 := A1.cell 0
  have c11 := A1.cell 1
  have c12 := A1.cell 2
  simp at c10 c11 c12
  have HA1 := Lib.hid A1
  have HXX : Hid (Below (w.heap.size + 1) (w.alloc (.cells #[.int .i64 (L : Int), .int .i64 (S : Int), .slice A n c] 32)) w1) := hb1.mono (by simp)
  clear A1 hb1 b0
  have kc := fun (w : World) (C : Array Value) (n c : Nat) => Lib.run_convert_bytes_const (P := Tryd.prog) w 148 5 C n c Tryd.underlying148 Tryd.underlying5
  have hl1 := HA1.out.lt
  have hl2 : w.heap.size < w1.heap.size + 1 := by omega
  go_wp2
  obtain ⟨W1, hW1⟩ : ∃ W1, W1 = w1.alloc (.cells #[.int .u8 105, .int .u8 109, .int .u8 97, .int .u8 103, .int .u8 101] 5 (5, 6)) := ⟨_, rfl⟩
  have hrow : ∀ j u, imgCells[j]? = some u → W1.cell? ⟨w1.heap.size, j, none⟩ = some u := by
    intro j u hj
    rw [hW1]
    exact img_cell w1 j u hj
  have hbW1 : Below w1.heap.size w1 W1 := by rw [hW1]; exact (Below.refl _ _).alloc (Nat.le_refl _) _
  have hW1s : W1.heap.size = w1.heap.size + 1 := by rw [hW1]; simp
  have hchk : ∀ W, Below W1.heap.size W1 W → Calls Tryd.prog 115 #[.agg #[.int .i64 (L : Int), .int .i64 (S : Int), .slice A n c]] W fun e w' => e = .returned (.int .i64 (chkI X Y n)) ∧ Below W1.heap.size W1 w' ∧
      w'.cell? ⟨w.heap.size, 0, none⟩ = some (.int .i64 (L : Int)) ∧ w'.cell? ⟨w.heap.size, 1, none⟩ = some (.int .i64 (S : Int)) ∧ w'.cell? ⟨w.heap.size, 2, none⟩ = some (.slice A n c) := by
    intro W hW
    have hWw : Below w1.heap.size w1 W := hbW1.trans (hW.mono (by omega))
    refine (checkOf_ok A L S n c re im X Y W (HS.out.below (hw1.trans (hWw.mono hw1.size))) HW.out hn4).mono ?_
    rintro e w' ⟨rfl, hb⟩
    have q := (HA1.out.below hWw hl1).below hb (by have := hWw.size; omega)
    have q0 := q.cell 0
    have q1 := q.cell 1
    have q2 := q.cell 2
    simp at q0 q1 q2
    exact ⟨rfl, hW.trans (hb.mono hW.size), q0, q1, q2⟩
  have HW1 := Lib.hid hW1
  clear hW1
  have HK := Lib.hid hchk
  have HROW := Lib.hid hrow
  clear hchk hrow
  go_region_held3 (fun w' => w'.cell? ⟨w.heap.size, 0, none⟩ = some (.int .i64 (L : Int)) ∧ w'.cell? ⟨w.heap.size, 1, none⟩ = some (.int .i64 (S : Int)) ∧ w'.cell? ⟨w.heap.size, 2, none⟩ = some (.slice A n c)) (go_keep)
    (first | (go_at_call 115; refine (HK.out _ ?_).mono ?_; (rw [HW1.out]; repeat (first | (with_reducible exact Below.refl _ _) | (with_reducible refine Below.drew ?_) | (with_reducible refine below_drewNs ?_))); rintro e w3 ⟨rfl, hb3, hs31, hs32, hs33⟩))
  have hcr := chkI_range X Y n
  have hlen := hdr_len L S (chkI X Y n) (by omega) (by omega) (by omega)
  have hW3 : Below w.heap.size w w3 := (hw1.trans (hbW1.mono hw1.size)).trans (hb3.mono (by omega))
  have hX3 : Below (w.heap.size + 1) (w.alloc (.cells #[.int .i64 (L : Int), .int .i64 (S : Int), .slice A n c] 32)) w3 := HXX.out.trans ((hbW1.mono (by omega)).trans (hb3.mono (by omega)))
  have HTX3 : Hid (TxK (w.heap.size + 1) w1.heap.size L S (chkI X Y n) 0 w3 (.slice (some ⟨w1.heap.size, 0, none⟩) 5 5)) := ⟨rfl, fun j u hj => (hb3.cell (p := ⟨w1.heap.size, j, none⟩) (by show w1.heap.size < _; omega)).trans (HROW.out j u hj)⟩
  have htb : Lib.TabBelow Tryd.prog (w.heap.size + 1) w3 "internal/strconv.uint64pow10" .u64 Lib.pow10Tab := (tab_below (HT.out) hX3)
  have HTB := Lib.hid htb
  have HQ := Lib.hid hX3
  have HL := Lib.hid hlen
  clear htb hX3 hs31 hs32 hs33 c10 c11 c12 hlen
  have hz3 := hW3.size
  go_wp2
  go_loopg [6, 30] 3 (fun gk v i wr => ∃ k : Nat, k ≤ 3 ∧ gk = 3 - k ∧ i = .int .i64 (k : Int) ∧ TxK (w.heap.size + 1) w1.heap.size L S (chkI X Y n) k wr v ∧ Below (w.heap.size + 1) (w.alloc (.cells #[.int .i64 (L : Int), .int .i64 (S : Int), .slice A n c] 32)) wr ∧ w3.heap.size ≤ wr.heap.size)
  case atStart => exact ⟨0, by omega, rfl, rfl, HTX3.out, HQ.out, Nat.le_refl _⟩
  case round =>
    obtain ⟨k, hk, hg, rfl, htx, hbel, hwz⟩ := hrel
    have hz31 := hb3.size
    have HG := Lib.hid hg
    have HB := Lib.hid htx
    have hbs := hbel.size
    simp at hbs
    have htb2 := Lib.hid (tab_below HT.out hbel)
    have hz := HZ0.out
    clear hg htx
    match k, hk, HG, HB with
    | 0, hk, HG, HB =>
      obtain ⟨hv, hcl⟩ := HB.out
      subst hv
      have HCL := Lib.hid hcl
      have ix : ∀ w, (Instr.index 149 (.agg #[.int .i64 (L : Int), .int .i64 (S : Int), .int .i64 (chkI X Y n)]) (.int .i64 0)).run Tryd.prog w = .ok (.int .i64 (L : Int)) w := fun _ => by kernel_rfl
      clear hcl
      go_wp2_with (at_builtin; refine wpList_append_grows _ rfl (.tmp 33) (.tmp 34) 148 rfl 5 i0 (.int .u8 0) 1 1 Tryd.underlying148 HI.out HZ0.out HZ1.out HZ2.out rfl (by decide) (some ⟨w1.heap.size, 0, none⟩) 5 5 imgCells rfl (by intro h; cases h) rfl ?o1 ⟨wr.heap.size, 0, none⟩ 1 1 [.int .u8 32] rfl rfl (byte_cell wr 32) (byte_one 32) (by omega) (by unfold maxLen; omega) (by omega) ?grow)
      case o1 =>
        intro b hb j u hj
        injection hb with hb
        subst hb
        have hlt := HCL.out j u hj
        have e : (⟨w1.heap.size, 0, none⟩ : Addr).add j = ⟨w1.heap.size, j, none⟩ := by unfold Addr.add; split <;> simp_all
        rw [e, World.cell?_alloc_lt wr _ _ (by show w1.heap.size < _; omega)]
        exact hlt
      intro v4 w4 hown4 hg4
      have HTX4 := Lib.hid (tx_of_own (B := w.heap.size + 1) (l := hdr L S (chkI X Y n) 0) (b := 32) hown4 (by omega) rfl rfl)
      have hb4 : Below (w.heap.size + 1) (w.alloc (.cells #[.int .i64 (L : Int), .int .i64 (S : Int), .slice A n c] 32)) w4 := (hbel.alloc (by omega) _).grown hg4 (by simp; omega) (by intro k h; cases h)
      have HTB4 := Lib.hid (tab_below HT.out hb4)
      have hb4s := hb4.size
      simp at hb4s
      have hz4 := hg4.size
      simp at hz4
      clear hown4 hg4
      go_wp2_with fail
      refine (appendNumber_any (w.heap.size + 1) v4 _ (L : Int) (by omega) (by omega) _ HTX4.out (by omega) (by have := hdr_len L S (chkI X Y n) (by omega) (by omega) (by omega) 0; simp only [List.length_append, List.length_cons, List.length_nil]; omega) HTB4.out).mono ?_
      rintro e w5 ⟨v5, rfl, htx5, hb5⟩
      have HTX5 : Hid (TxK (w.heap.size + 1) w1.heap.size L S (chkI X Y n) (0 + 1) w5 v5) := htx5
      have hb6 := hb4.trans hb5
      have hz5 := hb5.size
      clear htx5 hb5
      go_wp2
      go_roundg (3 - (0 + 1))
      case measure => have := HG.out; omega
      case rel => exact ⟨0 + 1, by omega, rfl, rfl, HTX5.out, hb6, by omega⟩
    | 1, hk, HG, HB =>
      have ix : ∀ w, (Instr.index 149 (.agg #[.int .i64 (L : Int), .int .i64 (S : Int), .int .i64 (chkI X Y n)]) (.int .i64 1)).run Tryd.prog w = .ok (.int .i64 (S : Int)) w := fun _ => by kernel_rfl
      have hown : Tx (w.heap.size + 1) wr u6 (hdr L S (chkI X Y n) 1) := HB.out
      have hlen2 := hdr_len L S (chkI X Y n) (by omega) (by omega) (by omega) 1
      have HOWN := Lib.hid hown
      have HLEN := Lib.hid hlen2
      clear hown hlen2
      go_wp2_with (at_builtin; refine wpList_append_own _ rfl (.tmp 33) (.tmp 34) 148 rfl (w.heap.size + 1) 5 i0 (.int .u8 0) 1 1 Tryd.underlying148 HI.out HZ0.out HZ1.out HZ2.out rfl (by decide) _ _ _ rfl (HOWN.out.alloc _) ⟨wr.heap.size, 0, none⟩ 1 1 [.int .u8 32] rfl rfl (byte_cell wr 32) (byte_one 32) (by have := HLEN.out; unfold maxLen; omega) (by have := HLEN.out; omega) (by simp; omega) ?_; intro v4 w4 hown4 hg4 _)
      have HTX4 := Lib.hid (tx_of_own (B := w.heap.size + 1) (l := hdr L S (chkI X Y n) 1) (b := 32) hown4 (by omega) rfl rfl)
      have hb4 : Below (w.heap.size + 1) (w.alloc (.cells #[.int .i64 (L : Int), .int .i64 (S : Int), .slice A n c] 32)) w4 := (hbel.alloc (by omega) _).grown hg4 (by simp; omega) (fun k h => by have := (HOWN.out.alloc (.cells #[.int .u8 32] 5)).lt k h; omega)
      have HTB4 := Lib.hid (tab_below HT.out hb4)
      have hb4s := hb4.size
      simp at hb4s
      have hz4 := hg4.size
      simp at hz4
      clear hown4 hg4
      go_wp2_with fail
      refine (appendNumber_any (w.heap.size + 1) v4 _ (S : Int) (by omega) (by omega) _ HTX4.out (by omega) (by have := hdr_len L S (chkI X Y n) (by omega) (by omega) (by omega) 1; simp only [List.length_append, List.length_cons, List.length_nil]; omega) HTB4.out).mono ?_
      rintro e w5 ⟨v5, rfl, htx5, hb5⟩
      have HTX5 : Hid (TxK (w.heap.size + 1) w1.heap.size L S (chkI X Y n) (1 + 1) w5 v5) := htx5
      have hb6 := hb4.trans hb5
      have hz5 := hb5.size
      clear htx5 hb5
      go_wp2
      go_roundg (3 - (1 + 1))
      case measure => have := HG.out; omega
      case rel => exact ⟨1 + 1, by omega, rfl, rfl, HTX5.out, hb6, by omega⟩
    | 2, hk, HG, HB =>
      have ix : ∀ w, (Instr.index 149 (.agg #[.int .i64 (L : Int), .int .i64 (S : Int), .int .i64 (chkI X Y n)]) (.int .i64 2)).run Tryd.prog w = .ok (.int .i64 (chkI X Y n)) w := fun _ => by kernel_rfl
      have hown : Tx (w.heap.size + 1) wr u6 (hdr L S (chkI X Y n) 2) := HB.out
      have hlen2 := hdr_len L S (chkI X Y n) (by omega) (by omega) (by omega) 2
      have HOWN := Lib.hid hown
      have HLEN := Lib.hid hlen2
      clear hown hlen2
      go_wp2_with (at_builtin; refine wpList_append_own _ rfl (.tmp 33) (.tmp 34) 148 rfl (w.heap.size + 1) 5 i0 (.int .u8 0) 1 1 Tryd.underlying148 HI.out HZ0.out HZ1.out HZ2.out rfl (by decide) _ _ _ rfl (HOWN.out.alloc _) ⟨wr.heap.size, 0, none⟩ 1 1 [.int .u8 32] rfl rfl (byte_cell wr 32) (byte_one 32) (by have := HLEN.out; unfold maxLen; omega) (by have := HLEN.out; omega) (by simp; omega) ?_; intro v4 w4 hown4 hg4 _)
      have HTX4 := Lib.hid (tx_of_own (B := w.heap.size + 1) (l := hdr L S (chkI X Y n) 2) (b := 32) hown4 (by omega) rfl rfl)
      have hb4 : Below (w.heap.size + 1) (w.alloc (.cells #[.int .i64 (L : Int), .int .i64 (S : Int), .slice A n c] 32)) w4 := (hbel.alloc (by omega) _).grown hg4 (by simp; omega) (fun k h => by have := (HOWN.out.alloc (.cells #[.int .u8 32] 5)).lt k h; omega)
      have HTB4 := Lib.hid (tab_below HT.out hb4)
      have hb4s := hb4.size
      simp at hb4s
      have hz4 := hg4.size
      simp at hz4
      clear hown4 hg4
      go_wp2_with fail
      refine (appendNumber_any (w.heap.size + 1) v4 _ (chkI X Y n) (by omega) (by omega) _ HTX4.out (by omega) (by have := hdr_len L S (chkI X Y n) (by omega) (by omega) (by omega) 2; simp only [List.length_append, List.length_cons, List.length_nil]; omega) HTB4.out).mono ?_
      rintro e w5 ⟨v5, rfl, htx5, hb5⟩
      have HTX5 : Hid (TxK (w.heap.size + 1) w1.heap.size L S (chkI X Y n) (2 + 1) w5 v5) := htx5
      have hb6 := hb4.trans hb5
      have hz5 := hb5.size
      clear htx5 hb5
      go_wp2
      go_roundg (3 - (2 + 1))
      case measure => have := HG.out; omega
      case rel => exact ⟨2 + 1, by omega, rfl, rfl, HTX5.out, hb6, by omega⟩
    | 3, hk, HG, HB =>
      have hown : Tx (w.heap.size + 1) wr u6 (hdr L S (chkI X Y n) 3) := HB.out
      have HOWN := Lib.hid hown
      have box := (at_new (w := w) (g := w.heap.size) (t := 32) (cs := #[.int .i64 (L : Int), .int .i64 (S : Int), .slice A n c]) rfl).below hbel (by omega)
      have bx1 := box.cell 1
      have bx2 := box.cell 2
      simp at bx1 bx2
      clear hown box htb2
      go_wp2
      go_loopg [6, 42] n (fun gk v i wq => ∃ j : Nat, j ≤ n ∧ gk = n - j ∧ i = .int .i64 (j : Int) ∧ Tx (w.heap.size + 1) wq v (body X Y S (hdr L S (chkI X Y n) 3) j) ∧ Below (w.heap.size + 1) (w.alloc (.cells #[.int .i64 (L : Int), .int .i64 (S : Int), .slice A n c] 32)) wq)
      case atStart => exact ⟨0, Nat.zero_le _, rfl, rfl, HOWN.out, hbel⟩
      case round =>
        obtain ⟨j, hj, hgj, rfl, htx, hbel2⟩ := hrel
        have HGJ := Lib.hid hgj
        have HTJ := Lib.hid htx
        have hqs := hbel2.size
        simp at hqs
        have box := (at_new (w := w) (g := w.heap.size) (t := 32) (cs := #[.int .i64 (L : Int), .int .i64 (S : Int), .slice A n c]) rfl).below hbel2 (by omega)
        have hbw : Below w.heap.size w wr := ((Below.refl _ _).alloc (Nat.le_refl _) _).trans (hbel2.mono (by omega))
        clear hgj htx bx1 bx2
        by_cases hlt : j < n
        · obtain ⟨b, off, rfl, _, hcl⟩ := (HS.out.below hbw) (by omega)
          obtain ⟨h1, h2, h3, h4⟩ := HW.out j hlt
          obtain ⟨r, s, hrun, g1, g2⟩ := widen_run _ _ _ _ h1 h2 (by omega) (by omega)
          have hcell := hcl j hlt
          unfold cx at hcell
          have bx1 := box.cell 1
          simp at bx1
          have G1 := Lib.hid g1
          have G2 := Lib.hid g2
          have H3 := Lib.hid h3
          have H4 := Lib.hid h4
          have hb := body_len X Y S n (hdr L S (chkI X Y n) 3) (HL.out 3) (fun i hi => ⟨(HW.out i hi).2.2.1, (HW.out i hi).2.2.2⟩) j hj
          have ha := itoa_len (X j) (by omega) (by omega)
          have HB0 : Hid ((body X Y S (hdr L S (chkI X Y n) 3) j).length ≤ 200000) := by show _ ≤ _; omega
          have HB1 : Hid ((((body X Y S (hdr L S (chkI X Y n) 3) j ++ [sepB j S]) ++ Lib.itoa (X j))).length ≤ 200000) := by show _ ≤ _; simp only [List.length_append, List.length_cons, List.length_nil]; omega
          clear hcl h1 h2 g1 g2 h3 h4 hb ha
          go_wp2_with fail
          refine (parts_ok r s (X j) (Y j) G1.out G2.out (by have := H3.out; omega) (by have := H4.out; omega) _).mono ?_
          rintro e w' ⟨rfl, rfl⟩
          go_wp2_with fail
          refine (sep_any j S hS.1 hS.2 (by omega) _).mono ?_
          rintro e w' ⟨rfl, rfl⟩
          go_wp2_with (at_builtin; refine wpList_append_own _ rfl (.tmp 53) (.tmp 58) 148 rfl (w.heap.size + 1) 5 i0 (.int .u8 0) 1 1 Tryd.underlying148 HI.out HZ0.out HZ1.out HZ2.out rfl (by decide) _ _ _ rfl (HTJ.out.alloc _) ⟨wr.heap.size, 0, none⟩ 1 1 [.int .u8 ((sepB j S).toNat : Int)] rfl rfl (byte_cell wr ((sepB j S).toNat : Int)) (byte_one ((sepB j S).toNat : Int)) (by have := HB0.out; unfold maxLen; omega) (by have := HB0.out; omega) (by simp; omega) ?_; intro v4 x4 hown4 hg4 _)
          have HT4 := Lib.hid (tx_of_own (B := w.heap.size + 1) (l := body X Y S (hdr L S (chkI X Y n) 3) j) (b := sepB j S) hown4 (by omega) rfl rfl)
          have hc4 := (hbel2.alloc (by omega) (.cells #[.int .u8 ((sepB j S).toNat : Int)] 5)).grown hg4 (by simp; omega) (fun k h => by have := (HTJ.out.alloc (.cells #[.int .u8 ((sepB j S).toNat : Int)] 5)).lt k h; omega)
          have htb4 := Lib.hid (tab_below HT.out hc4)
          have hcs4 := hc4.size
          simp at hcs4
          clear hown4 hg4
          (try go_wp2_with fail)
          refine (appendNumber_any (w.heap.size + 1) v4 _ (X j) (by have := H3.out; have := H4.out; omega) (by have := H3.out; have := H4.out; omega) _ HT4.out (by omega) (by have := HB0.out; simp only [List.length_append, List.length_cons, List.length_nil] at this ⊢; omega) htb4.out).mono ?_
          rintro e y4 ⟨n4, rfl, htn4, hd4⟩
          have HN4 := Lib.hid htn4
          have he4 := hc4.trans hd4
          have hes4 := he4.size
          simp at hes4
          clear htn4 hd4
          go_wp2_with (at_builtin; refine wpList_append_own _ rfl (.tmp 62) (.tmp 63) 148 rfl (w.heap.size + 1) 5 i0 (.int .u8 0) 1 1 Tryd.underlying148 HI.out HZ0.out HZ1.out HZ2.out rfl (by decide) _ _ _ rfl (HN4.out.alloc _) ⟨y4.heap.size, 0, none⟩ 1 1 [.int .u8 32] rfl rfl (byte_cell y4 32) (byte_one 32) (by have := HB1.out; unfold maxLen; omega) (by have := HB1.out; omega) (by simp; omega) ?_; intro v5 x5 hown5 hg5 _)
          have HT5 := Lib.hid (tx_of_own (B := w.heap.size + 1) (l := ((body X Y S (hdr L S (chkI X Y n) 3) j ++ [sepB j S]) ++ Lib.itoa (X j))) (b := 32) hown5 (by omega) rfl rfl)
          have hc5 := (he4.alloc (by omega) (.cells #[.int .u8 32] 5)).grown hg5 (by simp; omega) (fun k h => by have := (HN4.out.alloc (.cells #[.int .u8 32] 5)).lt k h; omega)
          have htb5 := Lib.hid (tab_below HT.out hc5)
          have hcs5 := hc5.size
          simp at hcs5
          clear hown5 hg5
          (try go_wp2_with fail)
          refine (appendNumber_any (w.heap.size + 1) v5 _ (Y j) (by have := H3.out; have := H4.out; omega) (by have := H3.out; have := H4.out; omega) _ HT5.out (by omega) (by have := HB1.out; simp only [List.length_append, List.length_cons, List.length_nil] at this ⊢; omega) htb5.out).mono ?_
          rintro e y5 ⟨n5, rfl, htn5, hd5⟩
          have HN5 := Lib.hid htn5
          have he5 := hc5.trans hd5
          have hes5 := he5.size
          simp at hes5
          clear htn5 hd5
          go_wp2
          go_roundg (n - (j + 1))
          case measure => have := HGJ.out; omega
          case rel => exact ⟨j + 1, by omega, rfl, by go_num, HN5.out, he5⟩
        · obtain rfl : j = n := by omega
          have hb := body_len X Y S j (hdr L S (chkI X Y j) 3) (HL.out 3) (fun i hi => ⟨(HW.out i hi).2.2.1, (HW.out i hi).2.2.2⟩) j (Nat.le_refl _)
          have HB0 : Hid ((body X Y S (hdr L S (chkI X Y j) 3) j).length ≤ 200000) := by show _ ≤ _; omega
          clear hb box
          go_wp2_with (at_builtin; refine wpList_append_own _ rfl (.tmp 68) (.tmp 69) 148 rfl (w.heap.size + 1) 5 i0 (.int .u8 0) 1 1 Tryd.underlying148 HI.out HZ0.out HZ1.out HZ2.out rfl (by decide) _ _ _ rfl (HTJ.out.alloc _) ⟨wr.heap.size, 0, none⟩ 1 1 [.int .u8 10] rfl rfl (byte_cell wr 10) (byte_one 10) (by have := HB0.out; unfold maxLen; omega) (by have := HB0.out; omega) (by simp; omega) ?_; intro v4 x4 hown4 hg4 _; have hcv := text_of_row (tx_of_own (B := w.heap.size + 1) (l := body X Y S (hdr L S (chkI X Y j) 3) j) (b := 10) hown4 (by omega) rfl rfl) (by simp))
          have hce := (hbel2.alloc (by omega) (.cells #[.int .u8 10] 5)).grown hg4 (by simp; omega) (fun k h => by have := (HTJ.out.alloc (.cells #[.int .u8 10] 5)).lt k h; omega)
          have hfin : Below w.heap.size w x4 := ((Below.refl _ _).alloc (Nat.le_refl _) _).trans (hce.mono (by omega))
          clear hown4 hg4 hce
          go_ret2
          exact ⟨rfl, hfin⟩
end Go.Proofs.YtdpoemhpmdahjaaDoor
