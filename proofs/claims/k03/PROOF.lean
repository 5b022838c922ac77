import PyProof.Rows.All
import Wide.All
import OpenK.AllK
import Wide.FinOn
import KE.KStateDown
import HandS.ForMost
import HandS.More
import HandS.WordsExc
import HandS.Defaults
import HandS.MakeKwOnly
import HandS.IsInst
import HandS.FStr
import HandS.Walk
import HandS.TupAny
import HandS.SortKw
import HandS.OwnEq
import KE.KFmtOwn
import KE.DataMinMax
import KE.DatumOrd
import KE.SortData
import HandS.Deep
import HandS.SetKeys
import HandS.DictComp
import HandS.Conv
import HandS.Style
import HandS.Evl
import HandS.Head0
import HandS.Head1
import HandS.Head2
import HandS.HeadEnd
import HandS.HeadHook1
import HandS.HeadHook2
import PySem.Challenge.RW_unitwants_k03_whole_rows_of_falls
set_option Elab.async false
set_option linter.all false
set_option maxRecDepth 100000
/-! own layer: heaps, rules that lacked, the bag of draws -/
namespace UW
open PySem PySem.Spec PyProof.Rows L2

/-! ### heaps -/
theorem same_upd {H : Hp} {p : Addr} {o : HO} (h : H p = none) : Same H (upd H p o) := fun b x e => by
  rw [upd_ne (ne_of_none e h)]
  exact e
theorem new_at {H H2 : Hp} {p : Addr} {o : HO} (e : upd H p o = H2) : H2 p = some o := by
  rw [← e]
  exact upd_same
theorem new_same {H H2 : Hp} {p : Addr} {o : HO} (e : upd H p o = H2) (h : H p = none) : Same H H2 := by
  rw [← e]
  exact same_upd h
/-- all but p is as it was -/
def Kp (p : Addr) (H H' : Hp) : Prop := ∀ c o, H c = some o → c ≠ p → H' c = some o
theorem Kp.refl (p : Addr) (H : Hp) : Kp p H H := fun _ _ h _ => h
theorem Kp.trans {p : Addr} {H H1 H2 : Hp} (a : Kp p H H1) (b : Kp p H1 H2) : Kp p H H2 := fun c o h n => b c o (a c o h n) n
theorem Kp.of {p : Addr} {H H' : Hp} (s : Same H H') : Kp p H H' := fun c o h _ => s c o h
theorem Kp.same {p : Addr} {H H1 H2 : Hp} (a : Kp p H H1) (b : Same H1 H2) : Kp p H H2 := a.trans (.of b)
theorem mut_keep {H H2 : Hp} {p : Addr} {o : HO} (e : upd H p o = H2) : Kp p H H2 := fun c x h n => by
  rw [← e, upd_ne n]
  exact h
/-- an object that H did not know has changed -/
theorem Kp.own {p q : Addr} {H H1 H2 : Hp} (a : Kp p H H1) (b : Kp q H1 H2) (n : H q = none) : Kp p H H2 := fun c o h m => b c o (a c o h m) (ne_of_none h n)
theorem Same.own {q : Addr} {H H1 H2 : Hp} (a : Same H H1) (b : Kp q H1 H2) (n : H q = none) : Same H H2 := fun c o h => b c o (a c o h) (ne_of_none h n)
theorem Kp.free {p q : Addr} {H H' : Hp} (a : Kp p H H') (h : H' q = none) (n : q ≠ p) : H q = none := by
  cases e : H q with
  | none => rfl
  | some o =>
    rw [a q o e n] at h
    cases h
theorem Kp.seq {K : PySem.W.Frag} {p a : Addr} {H H' : Hp} {xs : List V} (k : Kp p H H') (n : a ≠ p) (h : SqL K H a xs) : SqL K H' a xs := by
  rcases h with (h | ⟨o, h⟩) | h
  · exact .inl (.inl (k _ _ h n))
  · exact .inl (.inr ⟨o, k _ _ h n⟩)
  · exact .inr h
theorem ne_some {H : Hp} {a b : Addr} {o : HO} (h : H a = some o) (n : H b = none) : a ≠ b := fun e => by
  rw [e, n] at h
  cases h

/-! ### rules that lacked -/
section
variable {X : Cx}
def CPowL (i j : Int) : Prop := 0 ≤ j ∧ j ≤ 100 ∧ i.natAbs < 2 ^ 1000
theorem op_powL : OpR X (binaryOp .Pow) (rI CPowL fun i j => .int (i ^ j.toNat)) := opI fun i j _ _ _ _ _ hc q => by
  obtain ⟨h1, h2, h3⟩ := hc
  have b := intBits_le h3
  refine pow_int h1 ?_ q
  have b' : (Builtin.Int.intBits i : Int) ≤ 1000 := by exact_mod_cast b
  have b0 : (0 : Int) ≤ (Builtin.Int.intBits i : Int) := Int.natCast_nonneg _
  have := Int.mul_le_mul b' h2 h1 (by decide)
  exact Int.le_trans this (by decide)
def ipC (C : Int → Int → Prop) (f : Int → Int → Int) : TIp := fun x y H Q => ∃ i j, x = .int i ∧ y = .int j ∧ C i j ∧ Q (.int (f i j)) H
theorem ip_mul : PIp X .Mult (ipC CMul fun i j => i * j) := by
  intro pins s σ H x y v u Q I r1 r2 h
  obtain ⟨i, j, e1, e2, hc, q⟩ := h
  subst e1; subst e2
  obtain ⟨t, rfl⟩ := r1
  obtain ⟨t', rfl⟩ := r2
  exact imul_int ⟨.int _, H, I.tok _, ⟨_, rfl⟩, q⟩ hc.ok
theorem vals_take {vs : List V} {us : List Value} (h : Vals vs us) : ∀ n, Vals (vs.take n) (us.take n) := by
  induction h with
  | nil => intro n; rw [List.take_nil, List.take_nil]; exact .nil
  | cons r _ ih =>
    intro n
    cases n with
    | zero => exact .nil
    | succ n => exact .cons r (ih n)
/-- f(k = v, ..) -/
theorem pe_callN0 {CX : CXT} {k : Nat} {f : Addr} {fd : FuncData} {ps ks : List Str} {sp : Sp} {E : XK} {x : Str} {p pos : Pos} {kws : List Keyword} {tk : TA} {g : List Value → List Value → List Value} {gV : List V → List V → List V}
    (F : FnOk X.prog X.w X.K X.mg X.base CX k f fd ps sp) (hr : Room k X.A) (hg : Gl X x) (hm : X.mg x = some (.ref f)) (hk : PySem.W.keepIn X.K (.ref f) = true) (hb : KBn X.K fd ps 0 ks g gV) (hx : Passes CX X E) (hkw : PK X kws tk)
    (hall : (backToKw pos (keywordEach kws X.env)).all (·.1.isSome) = true := by rfl) (hks : (backToKw pos (keywordEach kws X.env)).filterMap (·.1) = ks := by rfl) (hdb : (x == ("__debug__" : Str)) = false := by decide)
    (hpl : ((backTo pos (starEach [] X.env)).any (·.1) || (backToKw pos (keywordEach kws X.env)).any (·.1.isNone)) = false := by rfl) :
    PE X (.Call (.Name x p) [] kws pos) (tCallN 0 ks.length sp gV E tNil tk) := by
  refine ⟨fun pins s σ H Q I h => ?_⟩
  refine wpAny_Call_Name_kw (ld_glob I hg hm ?_ hdb)
  refine PySem.W.callWith_KW0 (h₀ := X.base) I.ok.mod.kin hk hall ?_ hpl
  refine thn (hkw.run pos pins s σ H _ I h) fun ws s2 ⟨zs, H2, I2, rz, l1, l2, q2⟩ => ⟨I2.kIn, ?_⟩
  rw [hks]
  exact run_fnN (us := []) (vs := []) F hr hb hx I2 .nil rz rfl l2 q2
end

/-! ### the bag of draws -/
structure Bag (n : Nat) (H : Hp) (p : Addr) : Prop where
  ex : ∃ a b c : Int, H p = some (.lst [.int a, .int b, .int c]) ∧ 0 ≤ a ∧ 0 ≤ b ∧ b < 2 ^ 64 ∧ 0 ≤ c ∧ c ≤ n
theorem Bag.le {n m : Nat} {H : Hp} {p : Addr} (b : Bag n H p) (h : n ≤ m) : Bag m H p := by
  obtain ⟨a, x, c, h1, h2, h3, h4, h5, h6⟩ := b.ex
  exact ⟨a, x, c, h1, h2, h3, h4, h5, by omega⟩
theorem Bag.same {n : Nat} {H H' : Hp} {p : Addr} (b : Bag n H p) (s : Same H H') : Bag n H' p := by
  obtain ⟨a, x, c, h1, h⟩ := b.ex
  exact ⟨a, x, c, s _ _ h1, h⟩
theorem Bag.keep {n : Nat} {H H' : Hp} {p q : Addr} (b : Bag n H p) (s : Kp q H H') (ne : p ≠ q) : Bag n H' p := by
  obtain ⟨a, x, c, h1, h⟩ := b.ex
  exact ⟨a, x, c, s _ _ h1 ne, h⟩
theorem Bag.ne {n : Nat} {H : Hp} {p q : Addr} (b : Bag n H p) (h : H q = none) : p ≠ q := by
  obtain ⟨a, x, c, h1, _⟩ := b.ex
  exact ne_some h1 h
theorem Bag.some {n : Nat} {H : Hp} {p : Addr} (b : Bag n H p) : ∃ o, H p = some o := by
  obtain ⟨a, x, c, h1, _⟩ := b.ex
  exact ⟨_, h1⟩
/-- the five numbers of a rule within their bounds -/
structure Five (f m t b s : Int) : Prop where
  f1 : 1 ≤ f
  f2 : f ≤ 1000
  m1 : 1 ≤ m
  m2 : m ≤ 10
  t1 : 1 ≤ t
  t2 : t ≤ 1000000
  b1 : 0 ≤ b
  b2 : b ≤ 20
  s1 : 0 ≤ s
  s2 : s ≤ 1000000
end UW
namespace UW
open PySem L2
/-- for i, x in enumerate(xs), both names plain -/
theorem for_enum2 {K : PySem.W.Frag} {a : Addr} {xs : List V} {i j : Nat} {tb : TS} {D : Ends} {σ : St} {H : Hp} (Pv : Nat → St → Hp → Prop) (h0 : Pv 0 σ H) (hl : ∀ k σ H, k ≤ xs.length → Pv k σ H → SqL K H a xs)
    (hs : ∀ k x σ H H2, xs[k]? = some x → Pv k σ H → Same H H2 → tb { D with nx := Pv (k + 1), ct := Pv (k + 1), bk := D.nx } ((σ.set i (some (.int (k : Nat)))).set j (some x)) H2) (hd : ∀ σ H, Pv xs.length σ H → D.nx σ H) :
    ∃ W : Nat → Nat → St → Hp → Prop, (∃ m, W 0 m σ H) ∧ ∀ k m σ H, W k m σ H →
      ((Ite K a).stop k H ∧ D.nx σ H) ∨ ((Ite K a).go k H ∧ ∃ N : St → Hp → Prop, (∀ σ' H', N σ' H' → ∃ m', m' < m ∧ W (k + 1) m' σ' H') ∧ ∀ x H', (Ite K a).yld k H x H' → gTup K 2 (gCons (gName i) (gCons (gName j) gNil)) x σ H' fun σ2 H2 => tb { D with nx := N, ct := N, bk := D.nx } σ2 H2) := by
  refine for_it walk_enum Pv h0 hl (fun k v σ H H' hk p y => ?_) hd
  obtain ⟨T, x, y, rfl, nT, rfl, e1, e2⟩ := y
  cases e1
  exact ⟨T, _, rfl, .inl (.inl upd_same), rfl, _, _, rfl, _, _, rfl, rfl, hs k y σ H _ e2 p (same_upd nT)⟩
/-- one item of a short list by its place -/
theorem at0 {α : Type} {a : α} {r : List α} : atI (a :: r) 0 = some a := atI_nat (j := 0) rfl
theorem at1 {α : Type} {a b : α} {r : List α} : atI (a :: b :: r) 1 = some b := atI_nat (j := 1) rfl
theorem at2 {α : Type} {a b c : α} {r : List α} : atI (a :: b :: c :: r) 2 = some c := atI_nat (j := 2) rfl
theorem at3 {α : Type} {a b c d : α} {r : List α} : atI (a :: b :: c :: d :: r) 3 = some d := atI_nat (j := 3) rfl
theorem at4 {α : Type} {a b c d e : α} {r : List α} : atI (a :: b :: c :: d :: e :: r) 4 = some e := atI_nat (j := 4) rfl
end UW
namespace UW
open PySem L2
theorem bag_made {H : Hp} {p : Addr} {c k : Int} {b : Bool} (h0 : 0 ≤ k) (h1 : k ≤ 1000) : Bag 0 (upd H p (.lst [.int ((if c < 0 then -c else c) * (if b = true then 1 else 0)), .int (c % (10 ^ (18 : Int).toNat + 9) + 1299709 * k), .int 0])) p := by
  refine ⟨_, _, _, upd_same, ?_, ?_, ?_, Int.le_refl _, Int.le_refl _⟩
  · have : (0 : Int) ≤ if c < 0 then -c else c := by split <;> omega
    cases b
    · simp
    · simpa using this
  · have e : (10 ^ (18 : Int).toNat + 9 : Int) = 1000000000000000009 := by decide
    rw [e]
    omega
  · have e : (10 ^ (18 : Int).toNat + 9 : Int) = 1000000000000000009 := by decide
    rw [e]
    omega
end UW
namespace UW
open PySem L2
theorem cmul_b {i : Int} {b : Bool} : CMul i (if b = true then 1 else 0) := by
  cases b
  · exact .inr ⟨by decide, by decide⟩
  · exact .inr ⟨by decide, by decide⟩
theorem pow10 {j : Int} (h0 : 0 ≤ j := by decide) (h1 : j ≤ 100 := by decide) : CPowL 10 j :=
  ⟨h0, h1, Nat.lt_of_lt_of_le (show (10 : Int).natAbs < 2 ^ 4 by decide) (Nat.pow_le_pow_right (by decide) (by decide))⟩
/-- the primes of a draw -/
abbrev primes : List V := [.int 2147483647, .int 2147483629, .int 2147483587, .int 2147483579, .int 2147483563, .int 2147483549, .int 2147483543, .int 2147483497]
theorem prime_at (c : Int) : ∃ p : Int, atI primes (c % 8) = some (.int p) ∧ 0 < p ∧ p < 2147483648 := by
  have h0 : 0 ≤ c % 8 := Int.emod_nonneg _ (by decide)
  have h1 : c % 8 < 8 := Int.emod_lt_of_pos _ (by decide)
  generalize c % 8 = d at h0 h1
  obtain ⟨k, rfl⟩ := Int.eq_ofNat_of_zero_le h0
  have hk : k < 8 := by omega
  match k, hk with
  | 0, _ => exact ⟨_, atI_nat (j := 0) rfl, by decide, by decide⟩
  | 1, _ => exact ⟨_, atI_nat (j := 1) rfl, by decide, by decide⟩
  | 2, _ => exact ⟨_, atI_nat (j := 2) rfl, by decide, by decide⟩
  | 3, _ => exact ⟨_, atI_nat (j := 3) rfl, by decide, by decide⟩
  | 4, _ => exact ⟨_, atI_nat (j := 4) rfl, by decide, by decide⟩
  | 5, _ => exact ⟨_, atI_nat (j := 5) rfl, by decide, by decide⟩
  | 6, _ => exact ⟨_, atI_nat (j := 6) rfl, by decide, by decide⟩
  | 7, _ => exact ⟨_, atI_nat (j := 7) rfl, by decide, by decide⟩
theorem basis_small {b c : Int} (h0 : 0 ≤ b) (h1 : b < 2 ^ 64) (h2 : 0 ≤ c) (h3 : c < 2000000000) : (b * (2 * c + 1) + 7919 * c * c + 29).natAbs < 2 ^ 1000 := by
  have e1 : b * (2 * c + 1) ≤ 2 ^ 64 * (2 * 2000000000 + 1) := Int.mul_le_mul (by omega) (by omega) (by omega) (by decide)
  have e2 : 7919 * c * c ≤ 7919 * 2000000000 * 2000000000 := Int.mul_le_mul (by omega) (by omega) h2 (by decide)
  have e3 : 0 ≤ b * (2 * c + 1) := Int.mul_nonneg h0 (by omega)
  have e4 : 0 ≤ 7919 * c * c := Int.mul_nonneg (by omega) h2
  refine Nat.lt_of_lt_of_le (m := 2 ^ 200) ?_ (Nat.pow_le_pow_right (by decide) (by decide))
  have e5 : b * (2 * c + 1) + 7919 * c * c + 29 < 2 ^ 200 := by
    have : (2 ^ 64 * (2 * 2000000000 + 1) + 7919 * 2000000000 * 2000000000 + 29 : Int) < 2 ^ 200 := by decide
    omega
  omega
end UW
namespace UW
open PySem L2
/-- a draw: a number from 0 to below a size; the bag alone has changed -/
@[irreducible] def spTake : Sp := fun vs H Q _ => ∃ (p : Addr) (z : Int) (n : Nat), vs = [.ref p, .int z] ∧ Bag n H p ∧ 0 < z ∧ z < 1073741824 ∧ n < 1000000000 ∧
  ∀ (r : Int) H', 0 ≤ r → r < z → Bag (n + 1) H' p → Kp p H H' → Q (.int r) H'
theorem take_of {H : Hp} {p : Addr} {n : Nat} {z : Int} {Q : VK} {E : XK} (B : Bag n H p) (h0 : 0 < z) (h1 : z < 1073741824) (hn : n < 1000000000)
    (q : ∀ (r : Int) H', 0 ≤ r → r < z → Bag (n + 1) H' p → Kp p H H' → Q (.int r) H') : spTake [.ref p, .int z] H Q E := by
  unfold spTake
  exact ⟨p, z, n, rfl, B, h0, h1, hn, q⟩
theorem take_un {vs : List V} {H : Hp} {Q : VK} {E : XK} (h : spTake vs H Q E) : ∃ (p : Addr) (z : Int) (n : Nat), vs = [.ref p, .int z] ∧ Bag n H p ∧ 0 < z ∧ z < 1073741824 ∧ n < 1000000000 ∧
    ∀ (r : Int) H', 0 ≤ r → r < z → Bag (n + 1) H' p → Kp p H H' → Q (.int r) H' := by
  unfold spTake at h
  exact h
/-- take(bag, [z1, ..][take(bag, k)]), the menu just laid at l -/
theorem take_menu {K : PySem.W.Frag} {H : Hp} {p l : Addr} {n : Nat} {zs : List Int} {k : Int} {Q : VK} {E E' : XK} (B : Bag n H p) (hn : n < 900000000) (hl : H l = none) (hk : k = (zs.length : Int)) (hz0 : 0 < zs.length) (hz1 : zs.length < 1000) (hz : ∀ z ∈ zs, 0 < z ∧ z < 1073741824)
    (q : ∀ (z r : Int) H', z ∈ zs → 0 ≤ r → r < z → Bag (n + 2) H' p → Kp p H H' → Q (.int r) H') :
    spTake [.ref p, .int k] (upd H l (.lst (zs.map V.int))) (fun v H2 => rIxL K (.ref l) v H2 fun w H3 => spTake [.ref p, w] H3 Q E) E' := by
  subst hk
  generalize hE : upd H l _ = H1
  have k1 := new_at hE
  have s1 := new_same hE hl
  have npl := B.ne hl
  refine take_of (B.same s1) (by omega) (by omega) (by omega) fun r H2 r0 r1 B2 kp2 => ?_
  obtain ⟨j, rfl⟩ := Int.eq_ofNat_of_zero_le r0
  have hj : j < zs.length := by omega
  have hm : zs[j] ∈ zs := List.getElem_mem hj
  refine ⟨l, _, _, .int zs[j], rfl, rfl, SqL.of (kp2 _ _ k1 npl.symm), atI_nat (by rw [List.getElem?_map, List.getElem?_eq_getElem hj]; rfl), ?_⟩
  refine take_of B2 (hz _ hm).1 (hz _ hm).2 (by omega) fun r2 H3 q0 q1 B3 kp3 => ?_
  exact q _ r2 H3 hm q0 q1 B3 ((Kp.of s1).trans (kp2.trans kp3))
end UW
namespace UW
open PySem L2
section
variable {X : Cx}
/-- a statement, then the rest, with a word between -/
def tMid (t u : TS) : TS := fun D σ H => ∃ M : L2.St → Hp → Prop, t { D with nx := M } σ H ∧ ∀ σ' H', M σ' H' → u D σ' H'
theorem pss_mid {st : Stmt} {rest : List Stmt} {t u : TS} (h1 : PS X st t) (h2 : PSs X rest u) : PSs X (st :: rest) (tMid t u) := by
  refine ⟨fun pins s σ H D I h => ?_⟩
  obtain ⟨M, hm, hu⟩ := h
  refine wpAny_execs_cons (thn (h1.run pins s σ H { D with nx := M } I hm) fun f s1 q => ?_)
  cases f with
  | next =>
    obtain ⟨σ', H', I', q⟩ := q
    exact h2.run pins s1 σ' H' D I' (hu σ' H' q)
  | ret v => exact q
  | brk => exact q
  | cont => exact q
/-- an expression with a word behind it -/
def tMidE (t : TE) : TE := fun σ H Q => ∃ M : VK, t σ H M ∧ ∀ v H', M v H' → Q v H'
theorem pe_mid {e : Expr} {t : TE} (h : PE X e t) : PE X e (tMidE t) := by
  refine ⟨fun pins s σ H Q I ⟨M, hm, hq⟩ => ?_⟩
  exact thn (h.run pins s σ H M I hm) fun u s1 ⟨v, H', I', r, q⟩ => ⟨v, H', I', r, hq v H' q⟩
def tMidT (t : TT) : TT := fun σ H Q => ∃ M : Bool → Hp → Prop, t σ H M ∧ ∀ b H', M b H' → Q b H'
theorem pt_mid {e : Expr} {t : TT} (h : PT X e t) : PT X e (tMidT t) := by
  refine ⟨fun pins s σ H Q I ⟨M, hm, hq⟩ => ?_⟩
  exact thn (h.run pins s σ H M I hm) fun b s1 ⟨H', I', q⟩ => ⟨H', I', hq b H' q⟩
end
end UW
namespace UW
theorem iteY {c A B : Prop} [Decidable c] (hc : c) (h : A) : if c then A else B := by
  rw [if_pos hc]
  exact h
theorem iteN {c A B : Prop} [Decidable c] (hc : ¬ c) (h : B) : if c then A else B := by
  rw [if_neg hc]
  exact h
theorem iteYd {c A B : Prop} [Decidable c] (hc : c) (h : A) : if decide c = true then A else B := iteY (decide_eq_true hc) h
theorem iteNd {c A B : Prop} [Decidable c] (hc : ¬ c) (h : B) : if decide c = true then A else B := iteN (fun z => hc (of_decide_eq_true z)) h
end UW
namespace UW
open PySem L2
/-- None, truths, ints -/
def flatN : V → Bool
  | .non => true
  | .bl _ => true
  | .int _ => true
  | _ => false
def flatD : V → PyData
  | .non => .none
  | .bl b => .bool b
  | .int i => .int i
  | _ => .none
theorem dp_flat {K : PySem.W.Frag} {H : Hp} {v : V} (h : flatN v = true) : Dp K H v (flatD v) := by
  cases v with
  | non => exact .non
  | bl b => exact .bl b
  | int i => exact .int i
  | _ => cases h
theorem dpAll_flat {K : PySem.W.Frag} {H : Hp} : ∀ {xs : List V}, (∀ v ∈ xs, flatN v = true) → DpAll K H xs (xs.map flatD)
  | [], _ => .nil
  | v :: vs, h => .cons (dp_flat (h v (List.mem_cons_self ..))) (dpAll_flat fun x hx => h x (List.mem_cons_of_mem _ hx))
theorem lay_flat (v : V) : PyData.canLay0 (flatD v) = true ∧ PyData.depth (flatD v) = 0 := by
  cases v <;> exact ⟨by simp only [flatD, PyData.canLay0], by simp only [flatD, PyData.depth]⟩
theorem layAll_flat : ∀ xs : List V, PyData.canLayAll0 (xs.map flatD) = true ∧ PyData.depthAll (xs.map flatD) = 0
  | [] => ⟨by simp only [List.map_nil, PyData.canLayAll0], by simp only [List.map_nil, PyData.depthAll]⟩
  | v :: vs => by
    obtain ⟨a, b⟩ := lay_flat v
    obtain ⟨c, d⟩ := layAll_flat vs
    rw [List.map_cons]
    exact ⟨by simp only [PyData.canLayAll0, a, c, Bool.and_self], by simp only [PyData.depthAll, b, d, Nat.max_self]⟩
theorem shaped_flat (xs : List V) : SeqAt.shaped (.list (xs.map flatD)) = true := by
  obtain ⟨c, d⟩ := layAll_flat xs
  unfold SeqAt.shaped
  simp only [PyData.canLay0, PyData.depth, c, d]
  decide
theorem neD_same {K : PySem.W.Frag} {H : Hp} {a b : Addr} {xs : List V} {Q : VK} (h1 : SqL K H a xs) (h2 : SqL K H b xs) (hf : ∀ v ∈ xs, flatN v = true) (q : Q (.bl false) H) : rNeD K (.ref a) (.ref b) H Q := by
  refine ⟨_, _, .lst h1 (dpAll_flat hf), .lst h2 (dpAll_flat hf), shaped_flat xs, shaped_flat xs, ?_⟩
  have e : PyData.eqv (.list (xs.map flatD)) (.list (xs.map flatD)) = true := SeqAt.eqv_refl _ (by simp only [PyData.canLay0]; exact (layAll_flat xs).1)
  rw [e]
  exact q
end UW
namespace UW
open PySem L2
theorem yes_of {σ : L2.St} {H : Hp} {Q : Bool → Hp → Prop} (h : Q true H) : tYes σ H Q := h
end UW
namespace UW
open PySem L2
/-- max(xs, default=d) of ints: some int -/
def rMaxD (K : PySem.W.Frag) : List V → List V → Hp → VK → Prop := fun vs zs H Q => ∃ (a : Addr) (ns : List Int) (d : Int), vs = [.ref a] ∧ zs = [.int d] ∧ SqL K H a (ns.map V.int) ∧ ∀ m : Int, Q (.int m) H
theorem ints_flatD (ns : List Int) : (ns.map V.int).map flatD = ns.map PyData.int := by
  rw [List.map_map]
  rfl
theorem cr_maxD {X : Cx} (hc : X.calm = true) (hu : X.A.units + 64 < cLine) : CallRK X (.builtin "max") [Str.ofString "default"] (rMaxD X.K) := by
  intro pins s σ H vs zs us ws Q I r rz h
  obtain ⟨a, ns, d, rfl, rfl, hs, q⟩ := h
  obtain ⟨its, rv, hl, _⟩ := I.list hs
  rw [Vals.ref1 r]
  obtain ⟨w1, rfl, t1, rfl⟩ := vals1 rz
  obtain ⟨as, hr⟩ := Dp.readsAll I ((ns.map V.int).map flatD) _ _ (dpAll_flat (K := X.K) (H := H) (xs := ns.map V.int) fun v hv => by
    obtain ⟨i, _, rfl⟩ := List.mem_map.mp hv
    rfl) rv
  have hd := (layAll_flat (ns.map V.int)).2
  refine PySem.W.max_list_default (I.ok.hd hc) hl.isList (vs := its.toArray) hr ⟨?_, ?_⟩ (by rw [hd]; omega) (fun _ h' tk hk => ⟨.int d, H, I.kept hk, ⟨_, rfl⟩, q d⟩) fun y ys i v h' tk bs _ hi _ hk => ?_
  · rw [ints_flatD]
    intro x hx y hy
    obtain ⟨i, _, rfl⟩ := List.mem_map.mp hx
    obtain ⟨j, _, rfl⟩ := List.mem_map.mp hy
    simp only [PySem.W.alike]
  · rw [ints_flatD]
    intro x hx
    obtain ⟨i, _, rfl⟩ := List.mem_map.mp hx
    intro z
    cases z
  · have hv : ∃ n t, v = .int n t := by
      have hi' : its[i]? = some v := by rw [← List.getElem?_toArray]; exact hi
      have : ∀ (vs : List V) (us : List Value) (i : Nat) (v : Value), Vals vs us → us[i]? = some v → ∃ x, vs[i]? = some x ∧ RelV x v := by
        intro vs us i v r
        induction r generalizing i with
        | nil => intro h; simp at h
        | cons r1 _ ih =>
          intro h
          cases i with
          | zero => cases h; exact ⟨_, rfl, r1⟩
          | succ i => exact ih i h
      obtain ⟨x, hx, rx⟩ := this _ _ _ _ rv hi'
      rw [List.getElem?_map] at hx
      cases e : ns[i]? with
      | none => rw [e] at hx; cases hx
      | some n =>
        rw [e] at hx
        cases hx
        obtain ⟨t, rfl⟩ := rx
        exact ⟨n, t, rfl⟩
    obtain ⟨n, t, rfl⟩ := hv
    exact ⟨.int n, H, I.kept hk, ⟨_, rfl⟩, q n⟩
end UW
namespace UW
open PySem L2
theorem ints_flat' (ts : List Int) : ∀ v ∈ ts.map V.int, flatN v = true := fun v hv => by
  obtain ⟨i, _, rfl⟩ := List.mem_map.mp hv
  rfl
theorem eqvAll_len : ∀ xs ys : List PyData, xs.length ≠ ys.length → PyData.eqvAll xs ys = false
  | [], [], h => absurd rfl h
  | [], _ :: _, _ => by simp only [PyData.eqvAll]
  | _ :: _, [], _ => by simp only [PyData.eqvAll]
  | x :: xs, y :: ys, h => by
    simp only [PyData.eqvAll]
    rw [eqvAll_len xs ys (fun e => h (by rw [List.length_cons, List.length_cons, e])), Bool.and_false]
theorem neD_diff {K : PySem.W.Frag} {H : Hp} {a b : Addr} {xs ys : List V} {Q : VK} (h1 : SqL K H a xs) (h2 : SqL K H b ys) (hf : ∀ v ∈ xs, flatN v = true) (hg : ∀ v ∈ ys, flatN v = true) (hl : xs.length ≠ ys.length) (q : Q (.bl true) H) : rNeD K (.ref a) (.ref b) H Q := by
  refine ⟨_, _, .lst h1 (dpAll_flat hf), .lst h2 (dpAll_flat hg), shaped_flat xs, shaped_flat ys, ?_⟩
  have e : PyData.eqv (.list (xs.map flatD)) (.list (ys.map flatD)) = false := by
    simp only [PyData.eqv]
    exact eqvAll_len _ _ (by rw [List.length_map, List.length_map]; exact hl)
  rw [e]
  exact q
theorem eqD_same {K : PySem.W.Frag} {H : Hp} {a b : Addr} {xs : List V} {Q : VK} (h1 : SqL K H a xs) (h2 : SqL K H b xs) (hf : ∀ v ∈ xs, flatN v = true) (q : Q (.bl true) H) : rEqD K (.ref a) (.ref b) H Q := by
  refine ⟨_, _, .lst h1 (dpAll_flat hf), .lst h2 (dpAll_flat hf), shaped_flat xs, shaped_flat xs, ?_⟩
  have e : PyData.eqv (.list (xs.map flatD)) (.list (xs.map flatD)) = true := SeqAt.eqv_refl _ (by simp only [PyData.canLay0]; exact (layAll_flat xs).1)
  rw [e]
  exact q
end UW
namespace UW
open PySem L2
theorem slA {K : PySem.W.Frag} {H : Hp} {a : Addr} {xs : List V} {lo hi : Option Int} {Q : VK} (h : SqT K H a xs) (q : ∀ p H', Same H H' → SqT K H' p (cutV xs lo hi) → Q (.ref p) H') : rSlA K (.ref a) lo hi H Q := by
  refine ⟨a, xs, rfl, h, fun e => ?_, fun _ p np => ?_⟩
  · refine q a H (Same.refl H) ?_
    have : cutV xs lo hi = xs := by
      unfold cutV
      rw [e.1, e.2, List.drop_zero, Nat.sub_zero, List.take_length]
    rw [this]
    exact h
  · exact q p _ (same_upd np) (SqT.of upd_same)
theorem catA {K : PySem.W.Frag} {H : Hp} {a b : Addr} {xs ys : List V} {Q : VK} (h : SqT K H a xs) (h2 : SqT K H b ys) (hl : xs.length + ys.length ≤ 1000) (q : ∀ p H', Same H H' → SqT K H' p (xs ++ ys) → Q (.ref p) H') : rCatA K (.ref a) (.ref b) H Q := by
  refine ⟨a, b, xs, ys, rfl, rfl, h, h2, Nat.le_trans hl (by decide), fun e => ?_, fun _ e => ?_, fun _ _ p np => ?_⟩
  · exact q b H (Same.refl H) (by rw [e]; exact h2)
  · exact q a H (Same.refl H) (by rw [e, List.append_nil]; exact h)
  · exact q p _ (same_upd np) (SqT.of upd_same)
end UW
namespace UW
open PySem L2
/-! ### names -/
/-- one to eight letters -/
def Nm (x : Str) : Prop := (∀ c ∈ x.cps.toList, 97 ≤ c ∧ c ≤ 122) ∧ 0 < x.length ∧ x.length ≤ 8
abbrev lettersS : Str := Str.ofString "abcdefghijklmnopqrstuvwxyz"
abbrev srettelS : Str := Str.ofString "zyxwvutsrqponmlkjihgfedcba"
theorem letters_tl : lettersS.cps.toList = (List.range 26).map (97 + ·) := by decide +kernel
theorem srettel_tl : srettelS.cps.toList = (List.range 26).map (122 - ·) := by decide +kernel
theorem letters_size : lettersS.cps.size = 26 := by decide +kernel
theorem srettel_size : srettelS.cps.size = 26 := by decide +kernel
theorem len_tl' (x : Str) : x.length = x.cps.toList.length := TL.len_tl x
theorem tl_app (x y : Str) : (x ++ y).cps.toList = x.cps.toList ++ y.cps.toList := TL.tl_append x y
theorem str_ext {x y : Str} (h : x.cps.toList = y.cps.toList) : x = y := TL.ext_tl h
theorem letter_at {r : Int} (h0 : 0 ≤ r) (h1 : r < 26) : ∃ c, atI lettersS.cps.toList r = some c ∧ 97 ≤ c ∧ c ≤ 122 := by
  obtain ⟨j, rfl⟩ := Int.eq_ofNat_of_zero_le h0
  have hj : j < 26 := by omega
  refine ⟨97 + j, atI_nat ?_, by omega, by omega⟩
  rw [letters_tl, List.getElem?_map, List.getElem?_range hj]
  rfl
theorem letters_get {i c : Nat} (h : lettersS.cps[i]? = some c) : i < 26 ∧ c = 97 + i := by
  rw [← Array.getElem?_toList, letters_tl, List.getElem?_map] at h
  by_cases hi : i < 26
  · rw [List.getElem?_range hi] at h
    exact ⟨hi, (Option.some.inj h).symm⟩
  · rw [List.getElem?_eq_none (by rw [List.length_range]; omega)] at h
    cases h
theorem srettel_get {i c : Nat} (h : srettelS.cps[i]? = some c) : i < 26 ∧ c = 122 - i := by
  rw [← Array.getElem?_toList, srettel_tl, List.getElem?_map] at h
  by_cases hi : i < 26
  · rw [List.getElem?_range hi] at h
    exact ⟨hi, (Option.some.inj h).symm⟩
  · rw [List.getElem?_eq_none (by rw [List.length_range]; omega)] at h
    cases h
theorem inV_str (w : Str) : ∀ xs : List Str, inV (.str w) (xs.map V.str) = decide (w ∈ xs)
  | [] => rfl
  | x :: xs => by
    have ih := inV_str w xs
    unfold inV at ih ⊢
    rw [List.map_cons, List.any_cons, ih]
    show (x == w || decide (w ∈ xs)) = decide (w ∈ x :: xs)
    by_cases h : x = w
    · subst h
      rw [beq_self_eq_true, Bool.true_or, decide_eq_true (List.mem_cons_self ..)]
    · rw [show (x == w) = false from beq_eq_false_iff_ne.mpr h, Bool.false_or]
      exact decide_eq_decide.mpr ⟨fun z => List.mem_cons_of_mem _ z, fun z => by
        rcases List.mem_cons.mp z with z | z
        · exact absurd z.symm h
        · exact z⟩
theorem strs_flat (xs : List Str) : (xs.map V.str).all flatV = true := by
  rw [List.all_eq_true]
  intro v hv
  obtain ⟨x, _, rfl⟩ := List.mem_map.mp hv
  rfl
theorem nodup_le {α : Type} [DecidableEq α] : ∀ (cs ds : List α), cs.Nodup → (∀ c ∈ cs, c ∈ ds) → cs.length ≤ ds.length
  | [], _, _, _ => Nat.zero_le _
  | c :: cs, ds, hn, h => by
    obtain ⟨h1, h2⟩ := List.nodup_cons.mp hn
    have hm := h c (List.mem_cons_self ..)
    have ih := nodup_le cs (ds.erase c) h2 fun x hx => by
      have hne : x ≠ c := fun e => h1 (e ▸ hx)
      exact (List.mem_erase_of_ne hne).mpr (h x (List.mem_cons_of_mem _ hx))
    rw [List.length_erase_of_mem hm] at ih
    have := List.length_pos_of_mem hm
    rw [List.length_cons]
    omega
theorem free_in {α : Type} [DecidableEq α] {cs ds : List α} (hn : cs.Nodup) (h : ds.length < cs.length) : ∃ c ∈ cs, c ∉ ds := by
  by_cases q : ∃ c ∈ cs, c ∉ ds
  · exact q
  · have := nodup_le cs ds hn fun c hc => by
      by_cases hd : c ∈ ds
      · exact hd
      · exact absurd ⟨c, hc, hd⟩ q
    omega
/-- the text without its first sign -/
abbrev tailS (w : Str) : Str := cutS w (some 1) none
theorem tailS_tl (w : Str) : (tailS w).cps.toList = w.cps.toList.drop 1 := by
  show (List.take _ _ : List Nat) = _
  rw [show HT.sIx w.length 0 (some 1) = min 1 w.length from HT.sIx_nat w.length 0 1, HT.sIx_none]
  have hl := len_tl' w
  rw [hl]
  by_cases h : 1 ≤ w.cps.toList.length
  · rw [Nat.min_eq_left h, List.take_of_length_le (by rw [List.length_drop]; exact Nat.le_refl _)]
  · rw [Nat.min_eq_right (by omega), Nat.sub_self, List.take_zero, List.drop_of_length_le (by omega)]
theorem sign_app_tl (c : Nat) (x : Str) : ((⟨#[c]⟩ : Str) ++ x).cps.toList = c :: x.cps.toList := by
  rw [tl_app]
  rfl
/-- the 26 texts with another first letter -/
def cands (x : Str) : List Str := (List.range 26).map fun i => (⟨#[97 + i]⟩ : Str) ++ x
theorem cands_nodup (x : Str) : (cands x).Nodup := by
  unfold cands
  rw [List.nodup_iff_pairwise_ne, List.pairwise_map]
  refine List.Pairwise.imp ?_ List.nodup_range
  intro i j hij e
  have := congrArg (fun z : Str => z.cps.toList) e
  rw [show ((⟨#[97 + i]⟩ : Str) ++ x).cps.toList = (97 + i) :: x.cps.toList from sign_app_tl _ _, show ((⟨#[97 + j]⟩ : Str) ++ x).cps.toList = (97 + j) :: x.cps.toList from sign_app_tl _ _] at this
  injection this with h1 _
  omega
theorem cand_nm {w : Str} (h : Nm w) {i : Nat} (hi : i < 26) : Nm ((⟨#[97 + i]⟩ : Str) ++ tailS w) := by
  obtain ⟨h1, h2, h3⟩ := h
  have e := sign_app_tl (97 + i) (tailS w)
  have hl : ((⟨#[97 + i]⟩ : Str) ++ tailS w).length = w.length := by
    rw [len_tl', e, tailS_tl, List.length_cons, List.length_drop, ← len_tl']
    omega
  refine ⟨fun c hc => ?_, by omega, by omega⟩
  rw [e, tailS_tl] at hc
  rcases List.mem_cons.mp hc with rfl | hc
  · omega
  · exact h1 c (List.mem_of_mem_drop hc)
theorem join_one {ys : List Str} (h : ∀ y ∈ ys, ∃ c, y = ⟨#[c]⟩ ∧ 97 ≤ c ∧ c ≤ 122) (h0 : 0 < ys.length) (h8 : ys.length ≤ 8) : Nm (Txt.join (Str.ofString "") ys) := by
  have key : ∀ ys : List Str, (∀ y ∈ ys, ∃ c, y = ⟨#[c]⟩ ∧ 97 ≤ c ∧ c ≤ 122) → (Str.join (Str.ofString "") ys).cps.toList.length = ys.length ∧ ∀ c ∈ (Str.join (Str.ofString "") ys).cps.toList, 97 ≤ c ∧ c ≤ 122 := by
    intro ys
    induction ys with
    | nil => exact fun _ => ⟨rfl, fun c hc => by cases hc⟩
    | cons y ys ih =>
      intro h
      obtain ⟨c, rfl, h1, h2⟩ := h y (List.mem_cons_self ..)
      cases ys with
      | nil =>
        refine ⟨rfl, fun d hd => ?_⟩
        have hd' : d ∈ [c] := hd
        rw [List.mem_singleton.mp hd']
        exact ⟨h1, h2⟩
      | cons z zs =>
        obtain ⟨i1, i2⟩ := ih fun y hy => h y (List.mem_cons_of_mem _ hy)
        have e : (Str.join (Str.ofString "") (⟨#[c]⟩ :: z :: zs)).cps.toList = c :: (Str.join (Str.ofString "") (z :: zs)).cps.toList := by
          show ((⟨#[c]⟩ : Str) ++ Str.ofString "" ++ Str.join (Str.ofString "") (z :: zs)).cps.toList = _
          rw [tl_app, tl_app]
          rfl
        rw [e]
        refine ⟨by rw [List.length_cons, i1]; rfl, fun d hd => ?_⟩
        rcases List.mem_cons.mp hd with rfl | hd
        · exact ⟨h1, h2⟩
        · exact i2 d hd
  obtain ⟨k1, k2⟩ := key ys h
  rw [TL.join_eq]
  exact ⟨k2, by rw [len_tl', k1]; exact h0, by rw [len_tl', k1]; exact h8⟩
end UW
namespace UW
theorem range_map_succ' {α : Type} (g : Nat → α) (n : Nat) : (List.range (n + 1)).map g = (List.range n).map g ++ [g n] := by
  rw [List.range_succ, List.map_append]
  rfl
end UW
namespace UW
open PySem L2
/-! ### lists and tuples of texts compared -/
theorem Nm.ok {x : Str} (h : Nm x) : PyData.strOk x = true := by
  unfold PyData.strOk
  rw [Array.all_eq_true']
  intro c hc
  have := (h.1 c (Array.mem_toList_iff.mpr hc)).2
  exact decide_eq_true (by omega)
theorem dpAll_strs {K : PySem.W.Frag} {H : Hp} : ∀ xs : List Str, DpAll K H (xs.map V.str) (xs.map PyData.str)
  | [] => .nil
  | x :: xs => .cons (.str x) (dpAll_strs xs)
theorem layAll_strs : ∀ {xs : List Str}, (∀ x ∈ xs, PyData.strOk x = true) → PyData.canLayAll0 (xs.map PyData.str) = true ∧ PyData.depthAll (xs.map PyData.str) = 0
  | [], _ => ⟨by simp only [List.map_nil, PyData.canLayAll0], by simp only [List.map_nil, PyData.depthAll]⟩
  | x :: xs, h => by
    obtain ⟨c, d⟩ := layAll_strs fun y hy => h y (List.mem_cons_of_mem _ hy)
    rw [List.map_cons]
    exact ⟨by simp only [PyData.canLayAll0, PyData.canLay0, h x (List.mem_cons_self ..), c, Bool.and_self], by simp only [PyData.depthAll, PyData.depth, d, Nat.max_self]⟩
theorem shaped_strs {xs : List Str} (h : ∀ x ∈ xs, PyData.strOk x = true) : SeqAt.shaped (.list (xs.map PyData.str)) = true := by
  obtain ⟨c, d⟩ := layAll_strs h
  unfold SeqAt.shaped
  simp only [PyData.canLay0, PyData.depth, c, d]
  decide
theorem eqvAll_strs : ∀ xs ys : List Str, PyData.eqvAll (xs.map PyData.str) (ys.map PyData.str) = decide (xs = ys)
  | [], [] => by simp only [List.map_nil, PyData.eqvAll]; rfl
  | [], y :: ys => by simp only [List.map_nil, List.map_cons, PyData.eqvAll]; rfl
  | x :: xs, [] => by simp only [List.map_nil, List.map_cons, PyData.eqvAll]; rfl
  | x :: xs, y :: ys => by
    simp only [List.map_cons, PyData.eqvAll, PyData.eqv]
    rw [eqvAll_strs xs ys]
    by_cases h : x = y
    · subst h
      rw [beq_self_eq_true, Bool.true_and]
      exact decide_eq_decide.mpr ⟨fun e => by rw [e], fun e => by injection e⟩
    · rw [show (x == y) = false from beq_eq_false_iff_ne.mpr h, Bool.false_and]
      exact (decide_eq_false fun e => h (by injection e)).symm
/-- xs != ys of texts -/
theorem neD_strs {K : PySem.W.Frag} {H : Hp} {a b : Addr} {xs ys : List Str} {Q : VK} (h1 : SqL K H a (xs.map V.str)) (h2 : SqL K H b (ys.map V.str)) (hx : ∀ x ∈ xs, PyData.strOk x = true) (hy : ∀ y ∈ ys, PyData.strOk y = true) (q : Q (.bl (!decide (xs = ys))) H) : rNeD K (.ref a) (.ref b) H Q := by
  refine ⟨_, _, .lst h1 (dpAll_strs xs), .lst h2 (dpAll_strs ys), shaped_strs hx, shaped_strs hy, ?_⟩
  have e : PyData.eqv (.list (xs.map PyData.str)) (.list (ys.map PyData.str)) = decide (xs = ys) := by
    simp only [PyData.eqv]
    exact eqvAll_strs xs ys
  rw [e]
  exact q
theorem seq_ix {r : Int} {n : Nat} (h0 : 0 ≤ r) (h1 : r < n) : seqIndex? r n = some r.toNat := (ixN_seq (by
  unfold ixN
  rw [if_pos h0, if_pos h1])).1
end UW
namespace UW
theorem perm_pick {α : Type} : ∀ (ls : List α) (k : Nat) (h : k < ls.length), (ls[k] :: ls.eraseIdx k).Perm ls
  | [], _, h => absurd h (Nat.not_lt_zero _)
  | x :: xs, 0, _ => List.Perm.refl _
  | x :: xs, k + 1, h => by
    have hk : k < xs.length := by simpa using h
    have ih := perm_pick xs k hk
    show (xs[k] :: x :: xs.eraseIdx k).Perm (x :: xs)
    exact (List.Perm.swap _ _ _).trans (List.Perm.cons x ih)
theorem map_pick {α β : Type} (f : α → β) : ∀ (ls : List α) (k : Nat), (ls.map f).eraseIdx k = (ls.eraseIdx k).map f
  | [], _ => rfl
  | x :: xs, 0 => rfl
  | x :: xs, k + 1 => by
    show f x :: (xs.map f).eraseIdx k = f x :: (xs.eraseIdx k).map f
    rw [map_pick f xs k]
end UW
namespace UW
open PySem L2
theorem cutV_to {xs : List V} {n : Nat} : cutV xs none (some (n : Int)) = xs.take n := by
  unfold cutV
  rw [show HT.sIx xs.length xs.length (some (n : Int)) = min n xs.length from HT.sIx_nat xs.length xs.length n, HT.sIx_none]
  show (xs.drop 0).take (min n xs.length - 0) = xs.take n
  rw [List.drop_zero, Nat.sub_zero]
  by_cases h : n ≤ xs.length
  · rw [Nat.min_eq_left h]
  · rw [Nat.min_eq_right (by omega), List.take_length, List.take_of_length_le (by omega)]
theorem menu_ix {zs : List Int} {r : Int} (h0 : 0 ≤ r) (h1 : r < zs.length) : ∃ z, z ∈ zs ∧ atI (zs.map V.int) r = some (.int z) := by
  obtain ⟨j, rfl⟩ := Int.eq_ofNat_of_zero_le h0
  have hj : j < zs.length := by omega
  exact ⟨zs[j], List.getElem_mem hj, atI_nat (by rw [List.getElem?_map, List.getElem?_eq_getElem hj]; rfl)⟩
theorem menu_str {zs : List Str} {r : Int} (h0 : 0 ≤ r) (h1 : r < zs.length) : ∃ z, z ∈ zs ∧ atI (zs.map V.str) r = some (.str z) := by
  obtain ⟨j, rfl⟩ := Int.eq_ofNat_of_zero_le h0
  have hj : j < zs.length := by omega
  exact ⟨zs[j], List.getElem_mem hj, atI_nat (by rw [List.getElem?_map, List.getElem?_eq_getElem hj]; rfl)⟩
/-! ### facts of units -/
/-- what a unit is made of -/
structure UF where
  kind : Str
  needs : List Str
  wants : List Str
  bars : List Str
  after : List Str
  opens : Option Str
  five : Option (Int × Int × Int × Int × Int)
deriving DecidableEq
def UF.named (u : UF) : List Str := u.needs ++ u.wants ++ u.bars ++ u.after ++ u.opens.toList
def optV : Option Str → V
  | none => .non
  | some x => .str x
def FiveAt (H : Hp) : V → Option (Int × Int × Int × Int × Int) → Prop
  | v, none => v = .non
  | v, some (f, m, t, b, s) => ∃ p, v = .ref p ∧ H p = some (.tup [.int f, .int m, .int t, .int b, .int s]) ∧ Five f m t b s
/-- the seven facts stand in a tuple -/
def FactAt (H : Hp) (v : V) (u : UF) : Prop := ∃ (t n w b a : Addr) (g : V), v = .ref t ∧ H t = some (.tup [.str u.kind, .ref n, .ref w, .ref b, .ref a, optV u.opens, g]) ∧
  H n = some (.tup (u.needs.map V.str)) ∧ H w = some (.tup (u.wants.map V.str)) ∧ H b = some (.tup (u.bars.map V.str)) ∧ H a = some (.tup (u.after.map V.str)) ∧ FiveAt H g u.five
def NotTup (H : Hp) (q : Addr) : Prop := ∀ xs, H q ≠ some (.tup xs)
theorem NotTup.ne {H : Hp} {q c : Addr} {xs : List V} (h : NotTup H q) (e : H c = some (.tup xs)) : c ≠ q := fun z => h xs (z ▸ e)
theorem NotTup.lst {H : Hp} {q : Addr} {xs : List V} (h : H q = some (.lst xs)) : NotTup H q := fun ys e => by rw [h] at e; cases e
theorem NotTup.dK {H : Hp} {q : Addr} {kvs : List (Key × V)} (h : H q = some (.dK kvs)) : NotTup H q := fun ys e => by rw [h] at e; cases e
theorem NotTup.none {H : Hp} {q : Addr} (h : H q = Option.none) : NotTup H q := fun ys e => by rw [h] at e; cases e
theorem Bag.notTup {n : Nat} {H : Hp} {p : Addr} (b : Bag n H p) : NotTup H p := by
  obtain ⟨_, _, _, h, _⟩ := b.ex
  exact .lst h
theorem FiveAt.keep {H H' : Hp} {q : Addr} {v : V} {o : Option (Int × Int × Int × Int × Int)} (h : FiveAt H v o) (k : Kp q H H') (n : NotTup H q) : FiveAt H' v o := by
  cases o with
  | none => exact h
  | some o =>
    obtain ⟨f, m, t, b, s⟩ := o
    obtain ⟨p, e, hp, F⟩ := h
    exact ⟨p, e, k _ _ hp (n.ne hp), F⟩
theorem FactAt.keep {H H' : Hp} {q : Addr} {v : V} {u : UF} (h : FactAt H v u) (k : Kp q H H') (n : NotTup H q) : FactAt H' v u := by
  obtain ⟨t, a1, a2, a3, a4, g, e, h0, h1, h2, h3, h4, h5⟩ := h
  exact ⟨t, a1, a2, a3, a4, g, e, k _ _ h0 (n.ne h0), k _ _ h1 (n.ne h1), k _ _ h2 (n.ne h2), k _ _ h3 (n.ne h3), k _ _ h4 (n.ne h4), h5.keep k n⟩
theorem FiveAt.same {H H' : Hp} {v : V} {o : Option (Int × Int × Int × Int × Int)} (h : FiveAt H v o) (s : Same H H') : FiveAt H' v o := by
  cases o with
  | none => exact h
  | some o =>
    obtain ⟨f, m, t, b, s'⟩ := o
    obtain ⟨p, e, hp, F⟩ := h
    exact ⟨p, e, s _ _ hp, F⟩
theorem FactAt.same {H H' : Hp} {v : V} {u : UF} (h : FactAt H v u) (s : Same H H') : FactAt H' v u := by
  obtain ⟨t, a1, a2, a3, a4, g, e, h0, h1, h2, h3, h4, h5⟩ := h
  exact ⟨t, a1, a2, a3, a4, g, e, s _ _ h0, s _ _ h1, s _ _ h2, s _ _ h3, s _ _ h4, h5.same s⟩
/-- a dict of facts by names -/
inductive FactsAt (H : Hp) : List (Key × V) → List (Str × UF) → Prop
  | nil : FactsAt H [] []
  | snoc {kvs : List (Key × V)} {us : List (Str × UF)} {w : Str} {v : V} {u : UF} (h : FactsAt H kvs us) (e : FactAt H v u) : FactsAt H (kvs ++ [(Sum.inr w, v)]) (us ++ [(w, u)])
theorem FactsAt.keep {H H' : Hp} {q : Addr} {kvs : List (Key × V)} {us : List (Str × UF)} (h : FactsAt H kvs us) (k : Kp q H H') (n : NotTup H q) : FactsAt H' kvs us := by
  induction h with
  | nil => exact .nil
  | snoc _ e ih => exact .snoc ih (e.keep k n)
theorem FactsAt.same {H H' : Hp} {kvs : List (Key × V)} {us : List (Str × UF)} (h : FactsAt H kvs us) (s : Same H H') : FactsAt H' kvs us := by
  induction h with
  | nil => exact .nil
  | snoc _ e ih => exact .snoc ih (e.same s)
theorem FactsAt.len {H : Hp} {kvs : List (Key × V)} {us : List (Str × UF)} (h : FactsAt H kvs us) : kvs.length = us.length := by
  induction h with
  | nil => rfl
  | snoc _ _ ih => rw [List.length_append, List.length_append, ih]; rfl
theorem FactsAt.keys {H : Hp} {kvs : List (Key × V)} {us : List (Str × UF)} (h : FactsAt H kvs us) : kvs.map (·.1) = us.map fun p => (Sum.inr p.1 : Key) := by
  induction h with
  | nil => rfl
  | snoc _ _ ih => rw [List.map_append, List.map_append, ih]; rfl
theorem FactsAt.free {H : Hp} {kvs : List (Key × V)} {us : List (Str × UF)} (h : FactsAt H kvs us) {w : Str} (hw : w ∉ us.map (·.1)) : valV kvs (Sum.inr w : Key) = none := by
  induction h with
  | nil => rfl
  | @snoc kvs us w' v u h e ih =>
    rw [List.map_append] at hw
    have h1 : w ∉ us.map (·.1) := fun z => hw (List.mem_append_left _ z)
    have h2 : w ≠ w' := fun z => hw (List.mem_append_right _ (List.mem_singleton.mpr z))
    have q1 := ih h1
    have hv : ∀ kvs : List (Key × V), valV kvs (Sum.inr w : Key) = none → valV (kvs ++ [((Sum.inr w' : Key), v)]) (Sum.inr w : Key) = none := by
      intro kvs
      induction kvs with
      | nil => exact fun _ => valV_neg (fun z => h2 (by cases z; rfl))
      | cons p r ih =>
        intro hn
        by_cases hp : p.1 = (Sum.inr w : Key)
        · rw [valV_pos hp] at hn
          cases hn
        · rw [valV_neg hp] at hn
          rw [List.cons_append, valV_neg hp]
          exact ih hn
    exact hv kvs q1
theorem FactsAt.get {H : Hp} {kvs : List (Key × V)} {us : List (Str × UF)} (h : FactsAt H kvs us) (hn : (us.map (·.1)).Nodup) : ∀ p ∈ us, ∃ v, valV kvs (Sum.inr p.1 : Key) = some v ∧ FactAt H v p.2 := by
  induction h with
  | nil => intro p hp; cases hp
  | @snoc kvs us w v u h e ih =>
    intro p hp
    rw [List.map_append] at hn
    obtain ⟨n1, _, n3⟩ := List.nodup_append.mp hn
    have hw : w ∉ us.map (·.1) := fun z => n3 w z w (List.mem_singleton.mpr rfl) rfl
    have hf := h.free hw
    rw [valV_snoc _ _ _ _ hf]
    rcases List.mem_append.mp hp with hp1 | hp
    · obtain ⟨v', hv', ha⟩ := ih n1 p hp1
      have hne : ¬ (Sum.inr p.1 : Key) = Sum.inr w := fun z => hw (by cases z; exact List.mem_map.mpr ⟨p, hp1, rfl⟩)
      exact ⟨v', by rw [if_neg hne]; exact hv', ha⟩
    · have e' := List.mem_singleton.mp hp
      subst e'
      exact ⟨v, by rw [if_pos rfl], e⟩
/-- what a drawn unit is -/
structure UOk (ns ss : List Str) (w : Str) (u : UF) : Prop where
  kd : u.kind = Str.ofString "work" ∨ u.kind = Str.ofString "goal" ∨ u.kind = Str.ofString "door"
  nN : u.needs.Nodup
  nW : u.wants.Nodup
  nB : u.bars.Nodup
  nA : u.after.Nodup
  lN : u.needs.length ≤ 8
  lW : u.wants.length ≤ 8
  lB : u.bars.length ≤ 8
  lA : u.after.length ≤ 8
  mem : ∀ x ∈ u.named, (x ∈ ns ∨ x ∈ ss) ∧ x ≠ w
  op1 : u.kind = Str.ofString "door" → u.opens ≠ none
  op2 : u.kind ≠ Str.ofString "door" → u.opens = none
end UW

namespace UW
open PySem L2
theorem cutV_bit (ss : List Str) (b : Bool) : ∃ m : Nat, cutV (ss.map V.str) none (some (if b = true then 1 else 0)) = (ss.take m).map V.str := by
  cases b
  · exact ⟨0, by rw [List.map_take]; exact cutV_to (n := 0)⟩
  · exact ⟨1, by rw [List.map_take]; exact cutV_to (n := 1)⟩
theorem cutV_strs (ss : List Str) (n : Nat) : cutV (ss.map V.str) none (some (n : Int)) = (ss.take n).map V.str := by
  rw [List.map_take]
  exact cutV_to
def rcands (x : Str) : List Str := (List.range 26).map fun i => (⟨#[122 - i]⟩ : Str) ++ x
theorem rcands_nodup (x : Str) : (rcands x).Nodup := by
  unfold rcands
  rw [List.nodup_iff_pairwise_ne, List.pairwise_map]
  refine List.Pairwise.imp_of_mem ?_ List.pairwise_lt_range
  intro a b ha hb hab e
  have ha := List.mem_range.mp ha
  have hb := List.mem_range.mp hb
  have h := congrArg (fun z : Str => z.cps.toList) e
  simp only [sign_app_tl] at h
  injection h with h _
  omega
theorem rcand_nm {i : Nat} (hi : i < 26) : Nm ((⟨#[122 - i]⟩ : Str) ++ Str.ofString "zz") := by
  have e : ((⟨#[122 - i]⟩ : Str) ++ Str.ofString "zz").cps.toList = (122 - i) :: [122, 122] := by
    rw [sign_app_tl]
    have : (Str.ofString "zz").cps.toList = [122, 122] := by decide +kernel
    rw [this]
  refine ⟨fun c hc => ?_, ?_, ?_⟩
  · rw [e] at hc
    rcases List.mem_cons.mp hc with rfl | hc
    · omega
    · rcases List.mem_cons.mp hc with rfl | hc
      · omega
      · rw [List.mem_singleton.mp hc]
        omega
  · rw [len_tl', e]
    exact Nat.zero_lt_succ _
  · rw [len_tl', e]
    show 3 ≤ 8
    omega
theorem filter_free {α : Type} [DecidableEq α] {cs ds : List α} (hn : cs.Nodup) (h : ds.length < cs.length) : 0 < (cs.filter fun x => decide (x ∉ ds)).length := by
  obtain ⟨c, hc, hd⟩ := free_in hn h
  exact List.length_pos_of_mem (List.mem_filter.mpr ⟨hc, decide_eq_true hd⟩)
theorem take_filter_snoc {α : Type} (f : α → Bool) {xs : List α} {i : Nat} {x : α} (h : xs[i]? = some x) : (xs.take (i + 1)).filter f = (xs.take i).filter f ++ (if f x = true then [x] else []) := by
  rw [List.take_add_one, h, List.filter_append]
  show _ ++ List.filter f [x] = _
  cases hf : f x
  · rw [List.filter_cons_of_neg (by rw [hf]; exact Bool.false_ne_true), if_neg Bool.false_ne_true]
    rfl
  · rw [List.filter_cons_of_pos hf, if_pos rfl]
    rfl
theorem map_str_get {xs : List Str} {i : Nat} {x : V} (h : (xs.map V.str)[i]? = some x) : ∃ w, xs[i]? = some w ∧ x = .str w := by
  rw [List.getElem?_map] at h
  cases hx : xs[i]? with
  | none => rw [hx] at h; cases h
  | some w => rw [hx] at h; exact ⟨w, rfl, by injection h with h; exact h.symm⟩
end UW

namespace UW
open PySem L2
/-- [z1, ..][take(bag, k)], the menu just laid at l -/
theorem pick_menu {K : PySem.W.Frag} {H : Hp} {p l : Addr} {n : Nat} (zs : List V) {k : Int} {Q : VK} {E' : XK} (B : Bag n H p) (hn : n < 900000000) (hl : H l = none) (hk : k = (zs.length : Int)) (hz0 : 0 < zs.length) (hz1 : zs.length < 1000)
    (q : ∀ (z : V) H', z ∈ zs → Bag (n + 1) H' p → Kp p H H' → Q z H') :
    spTake [.ref p, .int k] (upd H l (.lst zs)) (fun v H2 => rIxL K (.ref l) v H2 Q) E' := by
  subst hk
  generalize hE : upd H l _ = H1
  have k1 := new_at hE
  have s1 := new_same hE hl
  have npl := B.ne hl
  refine take_of (B.same s1) (by omega) (by omega) (by omega) fun r H2 r0 r1 B2 kp2 => ?_
  obtain ⟨j, rfl⟩ := Int.eq_ofNat_of_zero_le r0
  have hj : j < zs.length := by omega
  refine ⟨l, _, _, zs[j], rfl, rfl, SqL.of (kp2 _ _ k1 npl.symm), atI_nat (List.getElem?_eq_getElem hj), ?_⟩
  exact q _ H2 (List.getElem_mem hj) B2 ((Kp.of s1).trans kp2)
theorem mix_ok {ns ss zs : List Str} {w : Str} (hn : ns.Nodup) (hs : ss.Nodup) (hm : ∀ x ∈ ns, Nm x) (ht : ∀ x ∈ ss, Nm x ∧ x ∉ ns) (h1 : ns.length ≤ 20) (h2 : ss.length ≤ 2) (hw : w ∈ ns) (hz : zs.Sublist ss) :
    ((ns.filter fun x => decide (x ≠ w)) ++ zs).Nodup ∧ ((ns.filter fun x => decide (x ≠ w)) ++ zs).length ≤ 100 ∧ (∀ x ∈ (ns.filter fun x => decide (x ≠ w)) ++ zs, Nm x) ∧ ∀ x ∈ (ns.filter fun x => decide (x ≠ w)) ++ zs, (x ∈ ns ∨ x ∈ ss) ∧ x ≠ w := by
  have key : ∀ x ∈ (ns.filter fun x => decide (x ≠ w)) ++ zs, Nm x ∧ (x ∈ ns ∨ x ∈ ss) ∧ x ≠ w := fun x hx => by
    rcases List.mem_append.mp hx with hx | hx
    · obtain ⟨a, b⟩ := List.mem_filter.mp hx
      exact ⟨hm x a, .inl a, of_decide_eq_true b⟩
    · have hx' := hz.subset hx
      exact ⟨(ht x hx').1, .inr hx', fun e => (ht x hx').2 (e ▸ hw)⟩
  refine ⟨List.nodup_append.mpr ⟨List.Nodup.sublist List.filter_sublist hn, List.Nodup.sublist hz hs, fun a ha b hb e => ?_⟩, ?_, fun x hx => (key x hx).1, fun x hx => (key x hx).2⟩
  · exact (ht b (hz.subset hb)).2 (e ▸ (List.mem_filter.mp ha).1)
  · rw [List.length_append]
    have := hz.length_le
    have := List.length_filter_le (fun x => decide (x ≠ w)) ns
    omega
end UW

namespace UW
open PySem L2
theorem tup_same {K : PySem.W.Frag} {H H' : Hp} {a : Addr} {xs : List V} (e : Same H H') (h : SqT K H a xs) : SqT K H' a xs := SqT.ext h e
/-- what isn't a tuple, nor a frozen one -/
def NotTp (H : Hp) (q : Addr) : Prop := ∀ xs, H q ≠ some (.tup xs) ∧ ∀ o, H q ≠ some (.frz o (.tup xs))
theorem NotTp.lst {H : Hp} {q : Addr} {xs : List V} (h : H q = some (.lst xs)) : NotTp H q := fun ys => ⟨(fun e => by rw [h] at e; cases e), (fun o e => by rw [h] at e; cases e)⟩
theorem NotTp.dK {H : Hp} {q : Addr} {xs : List (Key × V)} (h : H q = some (.dK xs)) : NotTp H q := fun ys => ⟨(fun e => by rw [h] at e; cases e), (fun o e => by rw [h] at e; cases e)⟩
theorem NotTp.ins {H : Hp} {q C dx : Addr} {fs : List (Str × V)} (h : H q = some (.ins C dx fs)) : NotTp H q := fun ys => ⟨(fun e => by rw [h] at e; cases e), (fun o e => by rw [h] at e; cases e)⟩
theorem Bag.notTp {n : Nat} {H : Hp} {p : Addr} (b : Bag n H p) : NotTp H p := by
  obtain ⟨_, _, _, h, _⟩ := b.ex
  exact .lst h
theorem Kp.tup {K : PySem.W.Frag} {H H' : Hp} {q a : Addr} {xs : List V} (k : Kp q H H') (n : NotTp H q) (h : SqT K H a xs) : SqT K H' a xs := by
  rcases h with (h | ⟨o, h⟩) | h
  · exact .inl (.inl (k _ _ h fun e => (n xs).1 (e ▸ h)))
  · exact .inl (.inr ⟨o, k _ _ h fun e => (n xs).2 o (e ▸ h)⟩)
  · exact .inr h
end UW

namespace UW
open PySem L2
theorem shaped_strsT {xs : List Str} (h : ∀ x ∈ xs, PyData.strOk x = true) : SeqAt.shaped (.tuple (xs.map PyData.str)) = true := by
  have := shaped_strs h
  unfold SeqAt.shaped at *
  simp only [PyData.canLay0, PyData.depth] at *
  exact this
theorem eqD_strsT {K : PySem.W.Frag} {H : Hp} {a b : Addr} {xs ys : List Str} {Q : VK} (h1 : SqT K H a (xs.map V.str)) (h2 : SqT K H b (ys.map V.str)) (hx : ∀ x ∈ xs, PyData.strOk x = true) (hy : ∀ y ∈ ys, PyData.strOk y = true) (q : Q (.bl (decide (xs = ys))) H) : rEqD K (.ref a) (.ref b) H Q := by
  refine ⟨_, _, .tup h1 (dpAll_strs xs), .tup h2 (dpAll_strs ys), shaped_strsT hx, shaped_strsT hy, ?_⟩
  have e : PyData.eqv (.tuple (xs.map PyData.str)) (.tuple (ys.map PyData.str)) = decide (xs = ys) := by
    simp only [PyData.eqv]
    exact eqvAll_strs xs ys
  rw [e]
  exact q
theorem dec_str {x y : Str} : decide (V.str x = V.str y) = decide (x = y) := decide_eq_decide.mpr ⟨fun e => by cases e; rfl, fun e => by rw [e]⟩
theorem dec_optV {x y : Option Str} : decide (optV x = optV y) = decide (x = y) := decide_eq_decide.mpr ⟨fun e => by
  cases x with
  | none => cases y with
    | none => rfl
    | some y => cases e
  | some x => cases y with
    | none => cases e
    | some y => cases e; rfl, fun e => by rw [e]⟩
theorem scal_optV (x y : Option Str) : scal (optV x) (optV y) = true := by
  cases x <;> cases y <;> rfl
end UW

namespace UW
open PySem L2
theorem neF {x : V} {A B : Prop} (h : B) : if (!decide (x = x)) = true then A else B := by
  rw [decide_eq_true rfl]
  exact iteF h
theorem eqv_strsT (xs : List Str) : PyData.eqv (.tuple (xs.map PyData.str)) (.tuple (xs.map PyData.str)) = true := by
  simp only [PyData.eqv]
  rw [eqvAll_strs]
  exact decide_eq_true rfl
theorem neD_quad {K : PySem.W.Frag} {H : Hp} {l l' a1 a2 a3 a4 b1 b2 b3 b4 : Addr} {x1 x2 x3 x4 : List Str} {Q : VK} (hl : SqL K H l [.ref a1, .ref a2, .ref a3, .ref a4]) (hl' : SqL K H l' [.ref b1, .ref b2, .ref b3, .ref b4])
    (h1 : SqT K H a1 (x1.map V.str)) (h2 : SqT K H a2 (x2.map V.str)) (h3 : SqT K H a3 (x3.map V.str)) (h4 : SqT K H a4 (x4.map V.str)) (g1 : SqT K H b1 (x1.map V.str)) (g2 : SqT K H b2 (x2.map V.str)) (g3 : SqT K H b3 (x3.map V.str)) (g4 : SqT K H b4 (x4.map V.str))
    (k1 : ∀ x ∈ x1, PyData.strOk x = true) (k2 : ∀ x ∈ x2, PyData.strOk x = true) (k3 : ∀ x ∈ x3, PyData.strOk x = true) (k4 : ∀ x ∈ x4, PyData.strOk x = true) (q : Q (.bl false) H) : rNeD K (.ref l) (.ref l') H Q := by
  have sh : SeqAt.shaped (.list [.tuple (x1.map PyData.str), .tuple (x2.map PyData.str), .tuple (x3.map PyData.str), .tuple (x4.map PyData.str)]) = true := by
    refine Bool.and_eq_true_iff.mpr ⟨?_, decide_eq_true ?_⟩
    · simp only [PyData.canLay0, PyData.canLayAll0]
      rw [(layAll_strs k1).1, (layAll_strs k2).1, (layAll_strs k3).1, (layAll_strs k4).1]
      rfl
    · simp only [PyData.depth, PyData.depthAll]
      rw [(layAll_strs k1).2, (layAll_strs k2).2, (layAll_strs k3).2, (layAll_strs k4).2]
      decide
  refine ⟨_, _, .lst hl (.cons (.tup h1 (dpAll_strs x1)) (.cons (.tup h2 (dpAll_strs x2)) (.cons (.tup h3 (dpAll_strs x3)) (.cons (.tup h4 (dpAll_strs x4)) .nil)))), .lst hl' (.cons (.tup g1 (dpAll_strs x1)) (.cons (.tup g2 (dpAll_strs x2)) (.cons (.tup g3 (dpAll_strs x3)) (.cons (.tup g4 (dpAll_strs x4)) .nil)))), sh, sh, ?_⟩
  have e : PyData.eqv (.list [.tuple (x1.map PyData.str), .tuple (x2.map PyData.str), .tuple (x3.map PyData.str), .tuple (x4.map PyData.str)]) (.list [.tuple (x1.map PyData.str), .tuple (x2.map PyData.str), .tuple (x3.map PyData.str), .tuple (x4.map PyData.str)]) = true := by
    rw [show ∀ xs ys, PyData.eqv (.list xs) (.list ys) = PyData.eqvAll xs ys from fun xs ys => by simp only [PyData.eqv]]
    simp only [PyData.eqvAll]
    rw [eqv_strsT, eqv_strsT, eqv_strsT, eqv_strsT]
    rfl
  rw [e]
  exact q
end UW
namespace UW
open PySem PySem.Spec PyProof.Rows L2
section
variable {prog : Program} {w : World} {A : Around} {E : Value → Shared → Prop} {s : Shared}
theorem adjust_back (n : Nat) : Builtin.Slice.sliceAdjust none none (-1) (n : Int) = ((n : Int) - 1, -1) := rfl
theorem places_back (n : Nat) : Builtin.Slice.slicePlaces ((n : Int) - 1) (-1) (-1) = n := by
  unfold Builtin.Slice.slicePlaces
  rw [if_neg (by decide), show (- -1 : Int) = 1 by decide, Int.ediv_one]
  split <;> omega
theorem applied_back {sl : Addr} {vs : Value} {n : Nat} {Q : Int × Int × Nat → Shared → Prop} (hs : s.heap.IsSliceOf sl .none .none vs) (ps : IsPart vs (some (-1))) (h : Q ((n : Int) - 1, -1, n) s) :
    wpAny (model prog w) A (Builtin.Slice.sliceApplied (.ref sl) (pure (n : Int))) Q E s := by
  obtain ⟨os, hos, _, hds⟩ := id hs
  unfold Builtin.Slice.sliceApplied Builtin.Slice.sliceFields
  refine wpAny_bind (wpAny_bind (wpAny_field hos hds (x := .none) rfl (wpAny_bind (wpAny_field hos hds (x := .none) rfl (wpAny_bind (wpAny_field hos hds (x := vs) rfl (wpAny_pure ?_)))))))
  refine wpAny_bind (HT.slicePart_ ps ?_)
  show wpAny _ _ (if ((-1 : Int) == 0) = true then _ else _) _ _ s
  rw [if_neg (by decide)]
  refine wpAny_bind (slicePart_none (wpAny_bind (slicePart_none (wpAny_bind (wpAny_pure ?_)))))
  show wpAny _ _ (pure ((n : Int) - 1, (-1 : Int), Builtin.Slice.slicePlaces ((n : Int) - 1) (-1) (-1))) _ _ s
  rw [places_back]
  exact wpAny_pure h
theorem fm_congr {α β : Type} {f g : α → Option β} : ∀ {l : List α}, (∀ x ∈ l, f x = g x) → l.filterMap f = l.filterMap g
  | [], _ => rfl
  | x :: l, h => by rw [List.filterMap_cons, List.filterMap_cons, h x (List.mem_cons_self ..), fm_congr fun y hy => h y (List.mem_cons_of_mem _ hy)]
theorem pick_back (xs : Array Value) : ((List.range xs.size).filterMap fun (m : Nat) => xs[((xs.size : Int) - 1 + (m : Int) * (-1)).toNat]?).toArray = xs.toList.reverse.toArray := by
  have e : (List.range xs.size).filterMap (fun (m : Nat) => xs[((xs.size : Int) - 1 + (m : Int) * (-1)).toNat]?) = ((List.range xs.size).map fun k => xs.size - 1 - k).filterMap (xs[·]?) := by
    rw [List.filterMap_map]
    refine fm_congr fun m hm => ?_
    have : ((xs.size : Int) - 1 + (m : Int) * (-1)).toNat = xs.size - 1 - m := by
      have := List.mem_range.mp hm
      omega
    show xs[_]? = xs[_]?
    rw [this]
  rw [e, PySem.W.krv_range, List.filterMap_reverse, PySem.W.krv_all]
theorem getItem_back {t sl : Addr} {items : Array Value} {vs : Value} {Q : Value → Shared → Prop} (ht : IsTup s.heap t items) (hs : s.heap.IsSliceOf sl .none .none vs) (ps : IsPart vs (some (-1)))
    (h : Q (.ref s.heap.objs.size) { s with heap := s.heap.push { cls := .type "tuple", data := .seq items.toList.reverse.toArray } }) (hsz : items.size ≤ sizeLine) : wpAny (model prog w) A (getItem (.ref t) (.ref sl)) Q E s := by
  have hok : sizeOk (.seq items.toList.reverse.toArray) := by
    show items.toList.reverse.toArray.size ≤ sizeLine
    rw [List.size_toArray, List.length_reverse, Array.length_toList]
    exact hsz
  have hTs : s.TypeIs (.ref sl) "slice" := by
    obtain ⟨os, hos, hcs, _⟩ := id hs
    exact ⟨os, hos, hcs⟩
  unfold getItem
  try with_reducible refine wpAny_holding ?_
  first | refine wpAny_bind (wpAny_pure ?_) | skip
  refine wpAny_bind (wpAny_sequenceKey ht.typeIs (by decide) ?_)
  refine wpAny_bind (wpAny_callSpecial?_slot (name := Str.ofString "__getitem__") ht.typeIs PyProof.Rows.slot_tuple_getitem
    (wpAny_call_entry PyProof.Rows.slot_tuple_getitem ht.typeIs entry_tuple_getitem ?_ (args_tuple_getitem _ _)))
  show wpAny _ _ (Builtin.Tuple.tupleItemsOf (.ref t) >>= _) _ _ s
  refine wpAny_bind (tupleItemsOf_ ht (wpAny_bind (wpAny_typeOf hTs ?_)))
  rw [if_pos (by decide)]
  refine wpAny_bind (applied_back hs ps ?_)
  show wpAny _ _ (if (((items.size : Int) - 1) == 0 && (-1 : Int) == 1 && items.size == items.size) = true then _ else _) _ _ s
  rw [if_neg (by rw [show ((-1 : Int) == 1) = false from rfl, Bool.and_false, Bool.false_and]; exact Bool.false_ne_true), pick_back]
  exact wpAny_bind (m := Builtin.Tuple.tupleExact _) (wpAny_newObj_type (wpAny_pure ⟨_, rfl, wpAny_pure h⟩) hok)
end
section
variable {X : Cx}
def tRevT (K : PySem.W.Frag) (te : TE) : TE := fun σ H Q => te σ H fun x H1 => ∃ a xs, x = .ref a ∧ SqT K H1 a xs ∧ ∀ p, H1 p = none → Q (.ref p) (upd H1 p (.tup xs.reverse))
theorem pe_revT {e : Expr} {te : TE} {k : Nat} {p1 p2 p3 pos : Pos} (he : PE X e te) : PE X (.Subscript e (.Slice none none (some (.UnaryOp .USub (.Constant (.int 1) k p1) p2)) p3) pos) (tRevT X.K te) := by
  refine ⟨fun pins s σ H Q I h => Subscript_ (thn (he.run pins s σ H _ I h) fun v s1 ⟨x, H1, I1, r1, q1⟩ => ?_)⟩
  obtain ⟨a, xs, ex, hx, q⟩ := q1
  subst ex
  cases r1
  have hst : PO X (some (.UnaryOp .USub (.Constant (.int 1) k p1) p2)) (tPart (tUn (rU fun i => .int (-i)) (tC (.int 1)))) := po_some (pe_un un_neg pe_int)
  refine wpAny_Slice (thn (po_none.run pins s1 σ H1 (fun o H2 => o = none ∧ H2 = H1) I1 ⟨rfl, rfl⟩) fun vl s2 ⟨l, H2, I2, pl, el, e2⟩ => ?_)
  subst el e2
  refine thn (po_none.run pins s2 σ H2 (fun o H3 => o = none ∧ H3 = H2) I2 ⟨rfl, rfl⟩) fun vu s3 ⟨u, H3, I3, pu, eu, e3⟩ => ?_
  subst eu e3
  refine thn (hst.run pins s3 σ H3 (fun o H4 => o = some (-1) ∧ H4 = H3) I3 ⟨1, rfl, -1, rfl, rfl, rfl⟩) fun vs s4 ⟨o, H4, I4, ps, eo, e4⟩ => ?_
  subst eo e4
  cases pl
  cases pu
  have I5 : Inv X pins σ H4 { s4 with heap := s4.heap.push { cls := .type "slice", data := .fields #[.none, .none, vs] } } := I4.kept (t' := s4.toks) fun b ob q => Heap.get?_push_of_some _ q
  obtain ⟨its, r, ht, hz⟩ := I5.tuple hx
  have hlen := r.length
  show wpAny (model X.prog X.w) X.A (subscriptTail e (.Slice none none (some (.UnaryOp .USub (.Constant (.int 1) k p1) p2)) p3) (.ref a) (.ref s4.heap.objs.size)) (EP X pins σ Q) X.xe { s4 with heap := s4.heap.push { cls := .type "slice", data := .fields #[.none, .none, vs] } }
  refine tail_any (ops := [.ref a, .ref s4.heap.objs.size]) ht.typeIs (PyProof.Rows.slot_tuple_getitem.lookup) ?_ (by with_unfolding_all rfl)
  refine getItem_back ht (Heap.IsSliceOf.new _ .none .none vs) ps ?_ (by rw [List.size_toArray]; omega)
  refine ⟨.ref _, _, I5.laid (t' := s4.toks) (o := .tup xs.reverse) (fun b ob q => Heap.get?_push_of_some _ q) (Nat.le_refl _) ?_, rfl, q _ (I5.hok.fresh (Nat.le_refl _))⟩
  exact ⟨by rw [List.length_reverse]; exact hz, _, r.reverse, IsTup.new _ _⟩
end
end UW

namespace UW
open PySem L2
theorem inV_mem (y : Str) (us : List V) : inV (.str y) us = true ↔ V.str y ∈ us := by
  unfold inV
  rw [List.any_eq_true]
  refine ⟨fun ⟨v, hv, e⟩ => ?_, fun h => ⟨_, h, by simp [eqV]⟩⟩
  have : v = .str y := by
    cases v <;> simp [eqV] at e
    rw [e]
  exact this ▸ hv
/-- the candidates that aren't among the given things -/
def frees (x : Str) (us : List V) : List Str := (cands x).filter fun y => !inV (.str y) us
theorem frees_ok {x : Str} {us : List V} {ds : List Str} (h : ∀ y, V.str y ∈ us → y ∈ ds) (hl : ds.length < 26) : ∃ z zs, frees x us = z :: zs ∧ V.str z ∉ us ∧ z ∈ cands x := by
  obtain ⟨c, hc, hd⟩ := free_in (cands_nodup x) (ds := ds) (by unfold cands; rw [List.length_map, List.length_range]; exact hl)
  have hm : c ∈ frees x us := List.mem_filter.mpr ⟨hc, by
    cases he : inV (.str c) us
    · rfl
    · exact absurd (h c ((inV_mem c us).mp he)) hd⟩
  cases hf : frees x us with
  | nil => rw [hf] at hm; cases hm
  | cons z zs =>
    have hz : z ∈ frees x us := by rw [hf]; exact List.mem_cons_self ..
    obtain ⟨h1, h2⟩ := List.mem_filter.mp hz
    refine ⟨z, zs, rfl, fun e => ?_, h1⟩
    rw [(inV_mem z us).mpr e] at h2
    exact Bool.false_ne_true h2
theorem cand_len {x z : Str} (h : z ∈ cands x) : z.length = 1 + x.length := by
  obtain ⟨i, _, rfl⟩ := List.mem_map.mp h
  rw [len_tl', sign_app_tl, List.length_cons, ← len_tl']
  omega
end UW
namespace K03
open PySem L2 UW
def topS (i : Nat) : Stmt := PySem.Challenge.pw_unitwants_k03_whole_rows_of_falls.main.body.getD i (.Pass ⟨0, 0, 0, 0⟩)
abbrev s_Rule_init : Stmt := inClass (topS 1) 0
abbrev N_Rule_init : List Str := ["self", "first", "times", "top", "burst", "span"]
theorem sc_Rule_init : FnScope N_Rule_init ["self", "first", "times", "top", "burst", "span"] (defScope s_Rule_init) := ⟨rfl, rfl, rfl, by decide +kernel, rfl, by decide +kernel, by decide +kernel⟩
abbrev s_Rule_eq : Stmt := inClass (topS 1) 1
abbrev N_Rule_eq : List Str := ["self", "other"]
theorem sc_Rule_eq : FnScope N_Rule_eq ["self", "other"] (defScope s_Rule_eq) := ⟨rfl, rfl, rfl, by decide +kernel, rfl, by decide +kernel, by decide +kernel⟩
abbrev s_Rule_str : Stmt := inClass (topS 1) 2
abbrev N_Rule_str : List Str := ["self"]
theorem sc_Rule_str : FnScope N_Rule_str ["self"] (defScope s_Rule_str) := ⟨rfl, rfl, rfl, by decide +kernel, rfl, by decide +kernel, by decide +kernel⟩
abbrev s_Rule_repr : Stmt := inClass (topS 1) 3
abbrev N_Rule_repr : List Str := ["self"]
theorem sc_Rule_repr : FnScope N_Rule_repr ["self"] (defScope s_Rule_repr) := ⟨rfl, rfl, rfl, by decide +kernel, rfl, by decide +kernel, by decide +kernel⟩
abbrev s_wait_behind : Stmt := topS 2
abbrev N_wait_behind : List Str := ["rule", "ahead", "wait", "step"]
theorem sc_wait_behind : FnScope N_wait_behind ["rule", "ahead"] (defScope s_wait_behind) := ⟨rfl, rfl, rfl, by decide +kernel, rfl, by decide +kernel, by decide +kernel⟩
abbrev s_waits : Stmt := topS 3
abbrev N_waits : List Str := ["rule", "falls", "told", "ahead", "at", "tick", "wait"]
theorem sc_waits : FnScope N_waits ["rule", "falls"] (defScope s_waits) := ⟨rfl, rfl, rfl, by decide +kernel, rfl, by decide +kernel, by decide +kernel⟩
abbrev s_law_bag : Stmt := topS 5
abbrev N_law_bag : List Str := ["_law_script", "_law_at", "_law_cell", "_law_far"]
theorem sc_law_bag : FnScope N_law_bag ["_law_script", "_law_at"] (defScope s_law_bag) := ⟨rfl, rfl, rfl, by decide +kernel, rfl, by decide +kernel, by decide +kernel⟩
abbrev s_law_take : Stmt := topS 6
abbrev N_law_take : List Str := ["_law_bag_here", "_law_size", "_law_digit", "_law_primes", "_law_stage", "_law_basis", "_law_found"]
theorem sc_law_take : FnScope N_law_take ["_law_bag_here", "_law_size"] (defScope s_law_take) := ⟨rfl, rfl, rfl, by decide +kernel, rfl, by decide +kernel, by decide +kernel⟩
abbrev s_law_rule_parts : Stmt := topS 7
abbrev N_law_rule_parts : List Str := ["_law_bag_here", "_law_some"]
theorem sc_law_rule_parts : FnScope N_law_rule_parts ["_law_bag_here"] (defScope s_law_rule_parts) := ⟨rfl, rfl, rfl, by decide +kernel, rfl, by decide +kernel, by decide +kernel⟩
abbrev s_law_rule : Stmt := topS 8
abbrev N_law_rule : List Str := ["_law_five"]
theorem sc_law_rule : FnScope N_law_rule ["_law_five"] (defScope s_law_rule) := ⟨rfl, rfl, rfl, by decide +kernel, rfl, by decide +kernel, by decide +kernel⟩
abbrev s_law_rows : Stmt := topS 9
abbrev N_law_rows : List Str := ["_law_bag_here", "_law_gap", "_law_rows_here", "_law_now", "_law_turn", "_law_row", "_law_place", "_law_one"]
theorem sc_law_rows : FnScope N_law_rows ["_law_bag_here", "_law_gap"] (defScope s_law_rows) := ⟨rfl, rfl, rfl, by decide +kernel, rfl, by decide +kernel, by decide +kernel⟩
abbrev s_law_row_right : Stmt := topS 10
abbrev N_law_row_right : List Str := ["_law_one", "_law_five", "_law_told", "_law_ahead", "_law_at", "_law_wait"]
theorem sc_law_row_right : FnScope N_law_row_right ["_law_one", "_law_five", "_law_told"] (defScope s_law_row_right) := ⟨rfl, rfl, rfl, by decide +kernel, rfl, by decide +kernel, by decide +kernel⟩
abbrev s_law : Stmt := topS 11
abbrev N_law : List Str := ["_law_script", "_law_k", "_law_bag_here", "_law_five", "_law_made", "_law_rows_here", "_law_every", "_law_due", "_law_row", "_law_own", "_law_far", "_law_some", "_law_one"]
theorem sc_law : FnScope N_law ["_law_script"] (defScope s_law) := ⟨rfl, rfl, rfl, by decide +kernel, rfl, by decide +kernel, by decide +kernel⟩
structure Txt (K : PySem.W.Frag) (mg : Str → Option Value) where
  d_Rule_init : FuncData
  F_Rule_init : FunD K "__init__" "Rule.__init__" (defArgs s_Rule_init) (defBody s_Rule_init) (defScope s_Rule_init) [] [("first", V.int 1), ("times", V.int 2), ("top", V.int 64), ("burst", V.int 5), ("span", V.int 100)] (He.fAd K ("Rule", some "__init__")) d_Rule_init
  d_Rule_eq : FuncData
  F_Rule_eq : FunD K "__eq__" "Rule.__eq__" (defArgs s_Rule_eq) (defBody s_Rule_eq) (defScope s_Rule_eq) [] [] (He.fAd K ("Rule", some "__eq__")) d_Rule_eq
  b_Rule_eq : Binds K d_Rule_eq ["self", "other"] []
  me_Rule_eq : Meth K (He.ga K "Rule") "__eq__" (He.fAd K ("Rule", some "__eq__"))
  d_Rule_str : FuncData
  F_Rule_str : FunD K "__str__" "Rule.__str__" (defArgs s_Rule_str) (defBody s_Rule_str) (defScope s_Rule_str) [] [] (He.fAd K ("Rule", some "__str__")) d_Rule_str
  b_Rule_str : Binds K d_Rule_str ["self"] []
  me_Rule_str : Meth K (He.ga K "Rule") "__str__" (He.fAd K ("Rule", some "__str__"))
  d_Rule_repr : FuncData
  F_Rule_repr : FunD K "__repr__" "Rule.__repr__" (defArgs s_Rule_repr) (defBody s_Rule_repr) (defScope s_Rule_repr) [] [] (He.fAd K ("Rule", some "__repr__")) d_Rule_repr
  b_Rule_repr : Binds K d_Rule_repr ["self"] []
  me_Rule_repr : Meth K (He.ga K "Rule") "__repr__" (He.fAd K ("Rule", some "__repr__"))
  d_wait_behind : FuncData
  F_wait_behind : FunD K "wait_behind" "wait_behind" (defArgs s_wait_behind) (defBody s_wait_behind) (defScope s_wait_behind) [] [] (He.fAd K ("wait_behind", none)) d_wait_behind
  m_wait_behind : mg "wait_behind" = some (.ref (He.ga K "wait_behind"))
  b_wait_behind : Binds K d_wait_behind ["rule", "ahead"] []
  d_waits : FuncData
  F_waits : FunD K "waits" "waits" (defArgs s_waits) (defBody s_waits) (defScope s_waits) [] [] (He.fAd K ("waits", none)) d_waits
  m_waits : mg "waits" = some (.ref (He.ga K "waits"))
  b_waits : Binds K d_waits ["rule", "falls"] []
  d_law_bag : FuncData
  F_law_bag : FunD K "_law_bag" "_law_bag" (defArgs s_law_bag) (defBody s_law_bag) (defScope s_law_bag) [] [] (He.fAd K ("_law_bag", none)) d_law_bag
  m_law_bag : mg "_law_bag" = some (.ref (He.ga K "_law_bag"))
  b_law_bag : Binds K d_law_bag ["_law_script", "_law_at"] []
  d_law_take : FuncData
  F_law_take : FunD K "_law_take" "_law_take" (defArgs s_law_take) (defBody s_law_take) (defScope s_law_take) [] [] (He.fAd K ("_law_take", none)) d_law_take
  m_law_take : mg "_law_take" = some (.ref (He.ga K "_law_take"))
  b_law_take : Binds K d_law_take ["_law_bag_here", "_law_size"] []
  d_law_rule_parts : FuncData
  F_law_rule_parts : FunD K "_law_rule_parts" "_law_rule_parts" (defArgs s_law_rule_parts) (defBody s_law_rule_parts) (defScope s_law_rule_parts) [] [] (He.fAd K ("_law_rule_parts", none)) d_law_rule_parts
  m_law_rule_parts : mg "_law_rule_parts" = some (.ref (He.ga K "_law_rule_parts"))
  b_law_rule_parts : Binds K d_law_rule_parts ["_law_bag_here"] []
  d_law_rule : FuncData
  F_law_rule : FunD K "_law_rule" "_law_rule" (defArgs s_law_rule) (defBody s_law_rule) (defScope s_law_rule) [] [] (He.fAd K ("_law_rule", none)) d_law_rule
  m_law_rule : mg "_law_rule" = some (.ref (He.ga K "_law_rule"))
  b_law_rule : Binds K d_law_rule ["_law_five"] []
  d_law_rows : FuncData
  F_law_rows : FunD K "_law_rows" "_law_rows" (defArgs s_law_rows) (defBody s_law_rows) (defScope s_law_rows) [] [] (He.fAd K ("_law_rows", none)) d_law_rows
  m_law_rows : mg "_law_rows" = some (.ref (He.ga K "_law_rows"))
  b_law_rows : Binds K d_law_rows ["_law_bag_here", "_law_gap"] []
  d_law_row_right : FuncData
  F_law_row_right : FunD K "_law_row_right" "_law_row_right" (defArgs s_law_row_right) (defBody s_law_row_right) (defScope s_law_row_right) [] [] (He.fAd K ("_law_row_right", none)) d_law_row_right
  m_law_row_right : mg "_law_row_right" = some (.ref (He.ga K "_law_row_right"))
  b_law_row_right : Binds K d_law_row_right ["_law_one", "_law_five", "_law_told"] []
  d_law : FuncData
  F_law : FunD K "law" "law" (defArgs s_law) (defBody s_law) (defScope s_law) [] [] (He.fAd K ("law", none)) d_law
  m_law : mg "law" = some (.ref (He.ga K "law"))
  b_law : Binds K d_law ["_law_script"] []
  m_Rule : mg "Rule" = some (.ref (He.ga K "Rule"))
  cl_Rule : Cls K (He.ga K "Rule")
  mk_Rule : Mk K (He.ga K "Rule") (He.fAd K ("Rule", some "__init__"))
  na_Rule_first : NoAttr K (He.ga K "Rule") "first"
  na_Rule_times : NoAttr K (He.ga K "Rule") "times"
  na_Rule_top : NoAttr K (He.ga K "Rule") "top"
  na_Rule_burst : NoAttr K (He.ga K "Rule") "burst"
  na_Rule_span : NoAttr K (He.ga K "Rule") "span"
  n_isinstance : mg "isinstance" = none
  n_range : mg "range" = none
  n_min : mg "min" = none
  n_enumerate : mg "enumerate" = none
  n_abs : mg "abs" = none
  n_len : mg "len" = none
  n_int : mg "int" = none
  n_tuple : mg "tuple" = none
  n_sum : mg "sum" = none
  n_bool : mg "bool" = none
  n_max : mg "max" = none
  n_list : mg "list" = none
  kb_Rule_init_1_first_times_top_burst_span : ∃ gg, KBn K d_Rule_init ["self", "first", "times", "top", "burst", "span"] 1 ["first", "times", "top", "burst", "span"] gg (fun us ws => us ++ (ws.drop 0).take 1 ++ (ws.drop 1).take 1 ++ (ws.drop 2).take 1 ++ (ws.drop 3).take 1 ++ (ws.drop 4).take 1)
section
variable {P : Program} {w : World} {K : PySem.W.Frag} {mg : Str → Option Value} {base : Heap}
/-! ### the bag and a draw -/
def sp_law_bag (K : PySem.W.Frag) : Sp := fun vs H Q _ => ∃ (a : Addr) (ns : List Int) (k : Nat), vs = [.ref a, .int k] ∧ SqL K H a (ns.map V.int) ∧ k ≤ 1000 ∧
  ∀ p H', H p = none → Same H H' → Bag 0 H' p → Q (.ref p) H'
theorem ok_law_bag (T : Txt K mg) : FnOk P w K mg base CX0 1 (He.fAd K ("_law_bag", none)) T.d_law_bag ["_law_script", "_law_at"] (sp_law_bag K) := by
  refine T.F_law_bag.ok sc_law_bag (fun vs H Q E h => ?_) (fun cdv A outer s H vs Q E hr h => ?_)
  · obtain ⟨a, ns, k, rfl, _⟩ := h
    rfl
  · obtain ⟨a, ns, k, rfl, hS, hk, q⟩ := h
    refine ⟨_, PSs.nox (pss_cons (ps_set (i := 2) sc_law_bag.nd rfl (Or.inl rfl) (pe_op op_add (pe_op op_add (pe_op op_mul (pe_op op_mul pe_int (pv 1)) (pv 1)) (pe_op op_mul pe_int (pv 1))) pe_int))
      (pss_mid (ps_if (pt_cmpR op_lt (pv 1) (pe_callB (id := "len")  call_len_seq (by rfl) T.n_len (by decide +kernel) (pa_cons (pv 0) pa_nil)) (nomark _))
      (pss_one (ps_set (i := 2) sc_law_bag.nd rfl (Or.inl rfl) (pe_ix ix_list (pv 0) (pv 1) (fun _ _ => rfl))))
      pss_nil)
      (pss_cons (ps_set (i := 3) sc_law_bag.nd rfl (Or.inl rfl) (pe_callB (id := "abs")  call_abs (by rfl) T.n_abs (by decide +kernel) (pa_cons (pv 2) pa_nil)))
      (pss_one (ps_ret (pe_lst (pa_cons (pe_op op_mul (pv 3) (pe_callTy (T := "int")  call_int1 (by rfl) T.n_int (by decide +kernel) (pa_cons (pe_cmpR op_ge (pv 3) (pe_op op_powL pe_int pe_int) (nomark _)) pa_nil))) (pa_cons (pe_op op_add (pe_op op_mod (pv 2) (pe_op op_add (pe_op op_powL pe_int pe_int) pe_int)) (pe_op op_mul pe_int (pv 1))) (pa_cons pe_int pa_nil))))))))), ?_⟩
    have hk2 : (k : Int) ≤ 1000 := by omega
    have hk0 : (0 : Int) ≤ k := Int.natCast_nonneg _
    -- cell = 7919 * at * at + 104729 * at + 11
    refine ⟨_, rfl, _, _, rfl, rfl, .inl ⟨by decide, by decide⟩, _, rfl, _, _, rfl, rfl, .inr ⟨by omega, by omega⟩, _, rfl, _, _, rfl, rfl, .inl ⟨by decide, by decide⟩, _, _, rfl, rfl, _, _, rfl, rfl, ?_⟩
    -- if at < len(script)
    refine ⟨fun σ H' => H' = H ∧ ∃ c : Int, σ = [some (.ref a), some (.int k), some (.int c), none], ?_, ?_⟩
    · refine ⟨_, rfl, _, rfl, a, _, rfl, .inl hS, _, _, rfl, rfl, _, rfl, ?_⟩
      refine ite2 (fun hc => ?_) (fun hc => ?_)
      · have hlt : k < ns.length := by
          have := of_decide_eq_true hc
          rw [List.length_map] at this
          omega
        exact ⟨_, rfl, _, rfl, a, _, _, .int ns[k], rfl, rfl, hS, atI_nat (by rw [List.getElem?_map, List.getElem?_eq_getElem hlt]; rfl), rfl, _, rfl⟩
      · exact ⟨rfl, _, rfl⟩
    · rintro σ H' ⟨rfl, c, rfl⟩
      -- far = abs(cell); return [far * int(far >= 10 ** 18), cell % (10 ** 18 + 9) + 1299709 * at, 0]
      refine ⟨_, rfl, _, rfl, ?_⟩
      refine ⟨_, rfl, _, rfl, _, _, rfl, rfl, pow10, _, _, rfl, rfl, .inr ⟨_, rfl, _, _, rfl, rfl, cmul_b, ?_⟩⟩
      refine ⟨_, rfl, _, _, rfl, rfl, pow10, _, _, rfl, rfl, _, _, rfl, rfl, (by show (0 : Int) < 10 ^ (18 : Int).toNat + 9; decide), _, rfl, _, _, rfl, rfl, .inl ⟨by decide, by decide⟩, _, _, rfl, rfl, (by show 3 ≤ sizeLine; decide), fun p hp => ?_⟩
      exact q p _ hp (same_upd hp) (bag_made hk0 hk2)
abbrev sp_law_take (K : PySem.W.Frag) : Sp := spTake
theorem ok_law_take (T : Txt K mg) : FnOk P w K mg base CX0 1 (He.fAd K ("_law_take", none)) T.d_law_take ["_law_bag_here", "_law_size"] (sp_law_take K) := by
  refine T.F_law_take.ok sc_law_take (fun vs H Q E h => ?_) (fun cdv A outer s H vs Q E hr h => ?_)
  · obtain ⟨p, z, n, rfl, _⟩ := take_un h
    rfl
  · obtain ⟨p, z, n, rfl, hB, hz0, hz1, hn, q⟩ := take_un h
    refine ⟨_, PSs.nox (pss_cons (ps_if (pt_cmpR op_gt (pe_ix ix_list (pv 0) pe_int (fun _ _ => rfl)) pe_int (nomark _))
      (pss_cons (ps_set (i := 2) sc_law_take.nd rfl (Or.inl rfl) (pe_op op_mod (pe_ix ix_list (pv 0) pe_int (fun _ _ => rfl)) (pv 1)))
      (pss_cons (ps_asg (pe_op op_fdiv (pe_ix ix_list (pv 0) pe_int (fun _ _ => rfl)) (pv 1)) (pg_sub (pv 0) pe_int set_list))
      (pss_one (ps_ret (pv 2)))))
      pss_nil)
      (pss_cons (ps_set (i := 3) sc_law_take.nd rfl (Or.inl rfl) (pe_tup (pa_cons pe_int (pa_cons pe_int (pa_cons pe_int (pa_cons pe_int (pa_cons pe_int (pa_cons pe_int (pa_cons pe_int (pa_cons pe_int pa_nil))))))))))
      (pss_cons (ps_asg (pe_op op_add (pe_ix ix_list (pv 0) pe_int (fun _ _ => rfl)) pe_int) (pg_sub (pv 0) pe_int set_list))
      (pss_cons (ps_set (i := 4) sc_law_take.nd rfl (Or.inl rfl) (pe_ix ix_list (pv 0) pe_int (fun _ _ => rfl)))
      (pss_cons (ps_set (i := 5) sc_law_take.nd rfl (Or.inl rfl) (pe_op op_add (pe_op op_add (pe_op op_mul (pe_ix ix_list (pv 0) pe_int (fun _ _ => rfl)) (pe_op op_add (pe_op op_mul pe_int (pv 4)) pe_int)) (pe_op op_mul (pe_op op_mul pe_int (pv 4)) (pv 4))) pe_int))
      (pss_cons (ps_set (i := 6) sc_law_take.nd rfl (Or.inl rfl) (pe_op op_mod (pe_op op_powL (pv 5) pe_int) (pe_ix ix_tup (pv 3) (pe_op op_mod (pv 4) pe_int) (fun _ _ => rfl))))
      (pss_one (ps_ret (pe_op op_mod (pe_op op_fdiv (pe_op op_mod (pe_op op_mul (pv 6) (pe_op op_add (pe_op op_fdiv (pv 6) pe_int) pe_int)) (pe_ix ix_tup (pv 3) (pe_op op_mod (pe_op op_add (pv 4) pe_int) pe_int) (fun _ _ => rfl))) pe_int) (pv 1)))))))))), ?_⟩
    obtain ⟨a, b, c, hp, ha, hb, hb1, hc, hc1⟩ := hB.ex
    -- if bag[0] > 0
    refine ⟨_, rfl, p, _, _, _, rfl, rfl, SqL.of hp, at0, _, _, rfl, rfl, _, rfl, ?_⟩
    refine ite2 (fun _ => ?_) (fun _ => ?_)
    · -- digit = bag[0] % size
      refine ⟨_, rfl, p, _, _, _, rfl, rfl, SqL.of hp, at0, _, rfl, _, _, rfl, rfl, hz0, ?_⟩
      -- bag[0] = bag[0] // size
      refine ⟨_, rfl, p, _, _, _, rfl, rfl, SqL.of hp, at0, _, rfl, _, _, rfl, rfl, ⟨hz0, hz1⟩, _, rfl, p, _, _, 0, rfl, rfl, hp, rfl, ?_⟩
      refine ⟨_, rfl, ?_⟩
      refine q (a % z) _ (Int.emod_nonneg _ (by omega)) (Int.emod_lt_of_pos _ hz0) ⟨_, _, _, upd_same, Int.ediv_nonneg ha (by omega), hb, hb1, hc, by omega⟩ (mut_keep rfl)
    · -- primes
      refine ⟨by show 8 ≤ sizeLine; decide, fun t ht => ?_⟩
      generalize hE : upd H t _ = H1
      have k1 := new_at hE
      have s1 := new_same hE ht
      have hp1 := s1 _ _ hp
      have npt : p ≠ t := ne_some hp ht
      -- bag[2] = bag[2] + 1
      refine ⟨_, rfl, p, _, _, _, rfl, rfl, SqL.of hp1, at2, _, _, rfl, rfl, _, rfl, p, _, _, 2, rfl, rfl, hp1, rfl, ?_⟩
      generalize hE2 : upd H1 p _ = H2
      have hp2 : H2 p = some (.lst [.int a, .int b, .int (c + 1)]) := new_at hE2
      have kp2 := mut_keep hE2
      have k2 := kp2 _ _ k1 npt.symm
      have bag2 : Bag (n + 1) H2 p := ⟨_, _, _, hp2, ha, hb, hb1, by omega, by omega⟩
      have kpA : Kp p H H2 := (Kp.of s1).trans kp2
      -- stage, basis
      refine ⟨_, rfl, p, _, _, _, rfl, rfl, SqL.of hp2, at2, ?_⟩
      refine ⟨_, rfl, p, _, _, _, rfl, rfl, SqL.of hp2, at1, _, rfl, _, _, rfl, rfl, .inl ⟨by decide, by decide⟩, _, _, rfl, rfl, _, _, rfl, rfl, .inl ⟨by omega, by omega⟩, _, rfl, _, _, rfl, rfl, .inl ⟨by decide, by decide⟩, _, rfl, _, _, rfl, rfl, .inr ⟨by omega, by omega⟩, _, _, rfl, rfl, _, _, rfl, rfl, ?_⟩
      -- found = basis ** 3 % primes[stage % 8]
      obtain ⟨p1, e1, g1, l1⟩ := prime_at (c + 1)
      refine ⟨_, rfl, _, _, rfl, rfl, ⟨by decide, by decide, basis_small hb hb1 (by omega) (by omega)⟩, _, rfl, _, rfl, _, _, rfl, rfl, (by show (0 : Int) < 8; decide), t, _, _, _, rfl, rfl, SqT.of k2, e1, _, _, rfl, rfl, g1, ?_⟩
      generalize hf : (b * (2 * (c + 1) + 1) + 7919 * (c + 1) * (c + 1) + 29) ^ (3 : Int).toNat % p1 = f
      have f0 : 0 ≤ f := by rw [← hf]; exact Int.emod_nonneg _ (by have : 0 < p1 := g1; omega)
      have f1 : f < 2147483648 := by
        have h1 := Int.emod_lt_of_pos ((b * (2 * (c + 1) + 1) + 7919 * (c + 1) * (c + 1) + 29) ^ (3 : Int).toNat) (show 0 < p1 from g1)
        rw [hf] at h1
        omega
      obtain ⟨p2, e2, g2, l2⟩ := prime_at (c + 1 + 5)
      refine ⟨_, rfl, _, rfl, _, _, rfl, rfl, ⟨by decide, by decide⟩, _, _, rfl, rfl, _, _, rfl, rfl, .inl ⟨by omega, by omega⟩, _, rfl, _, rfl, _, _, rfl, rfl, _, _, rfl, rfl, (by show (0 : Int) < 8; decide), t, _, _, _, rfl, rfl, SqT.of k2, e2, _, _, rfl, rfl, g2, _, _, rfl, rfl, ⟨by decide, by decide⟩, _, rfl, _, _, rfl, rfl, hz0, ?_⟩
      exact q _ _ (Int.emod_nonneg _ (by omega)) (Int.emod_lt_of_pos _ hz0) bag2 kpA

/-! ### a rule, its parts -/
def sp_law_rule_parts (K : PySem.W.Frag) : Sp := fun vs H Q _ => ∃ (p : Addr) (n : Nat), vs = [.ref p] ∧ Bag n H p ∧ n < 800000000 ∧
  ∀ (f m t b s : Int) (v : Addr) H', Five f m t b s → H v = none → H' v = some (.tup [.int f, .int m, .int t, .int b, .int s]) → Bag (n + 10) H' p → Kp p H H' → Q (.ref v) H'
theorem ok_law_rule_parts (T : Txt K mg) : FnOk P w K mg base CX0 2 (He.fAd K ("_law_rule_parts", none)) T.d_law_rule_parts ["_law_bag_here"] (sp_law_rule_parts K) := by
  refine T.F_law_rule_parts.ok sc_law_rule_parts (fun vs H Q E h => ?_) (fun cdv A outer s H vs Q E hr h => ?_)
  · obtain ⟨p, n, rfl, _⟩ := h
    rfl
  · obtain ⟨p, n, rfl, B, hn, q⟩ := h
    refine ⟨_, PSs.nox (pss_cons (ps_set (i := 1) sc_law_rule_parts.nd rfl (Or.inl rfl) (pe_lst (pa_cons (pe_op op_add pe_int (pe_call (ok_law_take T) (hr.mono (by decide)) (by rfl) T.m_law_take T.F_law_take.kp T.b_law_take .nil pass0 (pa_cons (pv 0) (pa_cons (pe_ix ix_list (pe_lst (pa_cons pe_int (pa_cons pe_int pa_nil))) (pe_call (ok_law_take T) (hr.mono (by decide)) (by rfl) T.m_law_take T.F_law_take.kp T.b_law_take .nil pass0 (pa_cons (pv 0) (pa_cons pe_int pa_nil))) (fun _ _ => rfl)) pa_nil)))) (pa_cons (pe_op op_add pe_int (pe_call (ok_law_take T) (hr.mono (by decide)) (by rfl) T.m_law_take T.F_law_take.kp T.b_law_take .nil pass0 (pa_cons (pv 0) (pa_cons (pe_ix ix_list (pe_lst (pa_cons pe_int (pa_cons pe_int pa_nil))) (pe_call (ok_law_take T) (hr.mono (by decide)) (by rfl) T.m_law_take T.F_law_take.kp T.b_law_take .nil pass0 (pa_cons (pv 0) (pa_cons pe_int pa_nil))) (fun _ _ => rfl)) pa_nil)))) pa_nil))))
      (pss_cons (ps_expr (pe_bm PySem.F.plainAttrs_list PySem.F.slot_list_append PySem.F.type_list_append mt_append (pv 1) (pa_cons (pe_op op_add pe_int (pe_call (ok_law_take T) (hr.mono (by decide)) (by rfl) T.m_law_take T.F_law_take.kp T.b_law_take .nil pass0 (pa_cons (pv 0) (pa_cons (pe_ix ix_list (pe_lst (pa_cons pe_int (pa_cons pe_int (pa_cons (pe_op op_powL pe_int pe_int) pa_nil)))) (pe_call (ok_law_take T) (hr.mono (by decide)) (by rfl) T.m_law_take T.F_law_take.kp T.b_law_take .nil pass0 (pa_cons (pv 0) (pa_cons pe_int pa_nil))) (fun _ _ => rfl)) pa_nil)))) pa_nil)))
      (pss_cons (ps_expr (pe_bm PySem.F.plainAttrs_list PySem.F.slot_list_append PySem.F.type_list_append mt_append (pv 1) (pa_cons (pe_call (ok_law_take T) (hr.mono (by decide)) (by rfl) T.m_law_take T.F_law_take.kp T.b_law_take .nil pass0 (pa_cons (pv 0) (pa_cons (pe_ix ix_list (pe_lst (pa_cons pe_int (pa_cons pe_int pa_nil))) (pe_call (ok_law_take T) (hr.mono (by decide)) (by rfl) T.m_law_take T.F_law_take.kp T.b_law_take .nil pass0 (pa_cons (pv 0) (pa_cons pe_int pa_nil))) (fun _ _ => rfl)) pa_nil))) pa_nil)))
      (pss_one (ps_ret (pe_callTy (T := "tuple")  call_tuple_of (by rfl) T.n_tuple (by decide +kernel) (pa_cons (pe_op op_cat (pv 1) (pe_lst (pa_cons (pe_call (ok_law_take T) (hr.mono (by decide)) (by rfl) T.m_law_take T.F_law_take.kp T.b_law_take .nil pass0 (pa_cons (pv 0) (pa_cons (pe_ix ix_list (pe_lst (pa_cons pe_int (pa_cons pe_int (pa_cons (pe_op op_add (pe_op op_powL pe_int pe_int) pe_int) pa_nil)))) (pe_call (ok_law_take T) (hr.mono (by decide)) (by rfl) T.m_law_take T.F_law_take.kp T.b_law_take .nil pass0 (pa_cons (pv 0) (pa_cons pe_int pa_nil))) (fun _ _ => rfl)) pa_nil))) pa_nil))) pa_nil))))))), ?_⟩
    refine ⟨_, rfl, by show 2 ≤ sizeLine; decide, fun l1 n1 => ⟨_, rfl, ?_⟩⟩
    refine take_menu (zs := [3, 1000]) B (by omega) n1 rfl (by decide) (by decide) (by decide) fun z1 r1 H1 hz1 a1 b1 B1 k1 => ?_
    refine ⟨_, _, rfl, rfl, _, rfl, by show 2 ≤ sizeLine; decide, fun l2 n2 => ⟨_, rfl, ?_⟩⟩
    refine take_menu (zs := [3, 10]) B1 (by omega) n2 rfl (by decide) (by decide) (by decide) fun z2 r2 H2 hz2 a2 b2 B2 k2 => ?_
    have k12 := k1.trans k2
    refine ⟨_, _, rfl, rfl, by show 2 ≤ sizeLine; decide, fun some n3 => ?_⟩
    have npS := B2.ne n3
    have n3' := k12.free n3 npS.symm
    generalize hE : upd H2 some _ = H3
    have w3 := new_at hE
    have s3 := new_same hE n3
    have k13 := k12.same s3
    -- append top
    refine ⟨_, rfl, .inl ⟨rfl, _, SqL.of w3⟩, _, rfl, _, _, rfl, rfl, pow10, by show 3 ≤ sizeLine; decide, fun l4 n4 => ⟨_, rfl, ?_⟩⟩
    refine take_menu (zs := [20, 1000, 10 ^ (6 : Int).toNat]) (B2.same s3) (by omega) n4 rfl (by decide) (by decide) (by decide) fun z3 r3 H4 hz3 a3 b3 B4 k4 => ?_
    have w4 := k4 _ _ w3 npS.symm
    refine ⟨_, _, rfl, rfl, some, _, _, rfl, rfl, w4, by show 2 < sizeLine; decide, ?_⟩
    generalize hE5 : upd H4 some _ = H5
    have w5 := new_at hE5
    have m5 := mut_keep hE5
    have B5 := B4.keep m5 npS
    have k15 := (k13.trans k4).own m5 n3'
    -- append burst
    refine ⟨_, rfl, .inl ⟨rfl, _, SqL.of w5⟩, _, rfl, by show 2 ≤ sizeLine; decide, fun l6 n6 => ⟨_, rfl, ?_⟩⟩
    refine take_menu (zs := [4, 21]) B5 (by omega) n6 rfl (by decide) (by decide) (by decide) fun z4 r4 H6 hz4 a4 b4 B6 k6 => ?_
    have w6 := k6 _ _ w5 npS.symm
    refine ⟨some, _, _, rfl, rfl, w6, by show 3 < sizeLine; decide, ?_⟩
    generalize hE7 : upd H6 some _ = H7
    have w7 := new_at hE7
    have m7 := mut_keep hE7
    have B7 := B6.keep m7 npS
    have k17 := (k15.trans k6).own m7 n3'
    -- tuple(some + [span])
    refine ⟨_, rfl, _, rfl, _, _, rfl, rfl, pow10, _, _, rfl, rfl, by show 3 ≤ sizeLine; decide, fun l8 n8 => ⟨_, rfl, ?_⟩⟩
    refine take_menu (zs := [30, 1000, 10 ^ (6 : Int).toNat + 1]) B7 (by omega) n8 rfl (by decide) (by decide) (by decide) fun z5 r5 H8 hz5 a5 b5 B8 k8 => ?_
    have w8 := k8 _ _ w7 npS.symm
    refine ⟨by show 1 ≤ sizeLine; decide, fun l9 n9 => ?_⟩
    generalize hE9 : upd H8 l9 _ = H9
    have w9 := new_at hE9
    have s9 := new_same hE9 n9
    refine ⟨some, l9, _, _, rfl, rfl, s9 _ _ w8, w9, by show 5 ≤ sizeLine; decide, fun l10 n10 => ?_⟩
    generalize hE10 : upd H9 l10 _ = H10
    have w10 := new_at hE10
    have s10 := new_same hE10 n10
    refine ⟨l10, _, rfl, .inl ⟨SqL.of w10, fun v nv => ?_⟩⟩
    generalize hE11 : upd H10 v _ = H11
    have w11 := new_at hE11
    have s11 := new_same hE11 nv
    have s8 : Same H8 H11 := (s9.trans s10).trans s11
    have k18 : Kp p H H11 := (k17.trans k8).same s8
    have npv : v ≠ p := fun e => by
      rw [e] at nv
      obtain ⟨o, ho⟩ := (B8.same (s9.trans s10)).some
      rw [ho] at nv
      cases nv
    refine q (1 + r1) (1 + r2) (1 + r3) r4 r5 v H11 ⟨?_, ?_, ?_, ?_, ?_, ?_, ?_, ?_, ?_, ?_⟩ (k17.trans k8 |>.same (s9.trans s10) |>.free nv npv) w11 (B8.same s8) k18
    all_goals (have e6 : (10 : Int) ^ (6 : Int).toNat = 1000000 := by decide
               simp only [List.mem_cons, List.not_mem_nil, or_false, e6] at hz1 hz2 hz3 hz4 hz5; omega)

/-! ### the rule itself -/
abbrev rFs (f m t b s : Int) : List (Str × V) := [("first", .int f), ("times", .int m), ("top", .int t), ("burst", .int b), ("span", .int s)]
/-- a rule stands at a -/
def RuleAt (K : PySem.W.Frag) (H : Hp) (a : Addr) (f m t b s : Int) : Prop := ∃ dx, H a = some (.ins (He.ga K "Rule") dx (rFs f m t b s))
theorem RuleAt.same {H H' : Hp} {a : Addr} {f m t b s : Int} (h : RuleAt K H a f m t b s) (e : Same H H') : RuleAt K H' a f m t b s := by
  obtain ⟨dx, h⟩ := h
  exact ⟨dx, e _ _ h⟩
theorem RuleAt.keep {H H' : Hp} {a p : Addr} {f m t b s : Int} (h : RuleAt K H a f m t b s) (e : Kp p H H') (n : a ≠ p) : RuleAt K H' a f m t b s := by
  obtain ⟨dx, h⟩ := h
  exact ⟨dx, e _ _ h n⟩
def sp_Rule_init (K : PySem.W.Frag) : Sp := fun vs H Q _ => ∃ (p dx : Addr) (f m t b s : Int), vs = [.ref p, .int f, .int m, .int t, .int b, .int s] ∧ H p = some (.ins (He.ga K "Rule") dx []) ∧
  ∀ H', H' p = some (.ins (He.ga K "Rule") dx (rFs f m t b s)) → Kp p H H' → Q .non H'
theorem ok_Rule_init (T : Txt K mg) : FnOk P w K mg base CX0 1 (He.fAd K ("Rule", some "__init__")) T.d_Rule_init ["self", "first", "times", "top", "burst", "span"] (sp_Rule_init K) := by
  refine T.F_Rule_init.ok sc_Rule_init (fun vs H Q E h => ?_) (fun cdv A outer s H vs Q E hr h => ?_)
  · obtain ⟨p, dx, f, m, t, b, s, rfl, _⟩ := h
    rfl
  · obtain ⟨p, dx, f, m, t, b, s, rfl, hp, q⟩ := h
    refine ⟨_, PSs.nox (pss_cons (ps_fld (pv 0) (pv 1) rfl)
      (pss_cons (ps_fld (pv 0) (pv 2) rfl)
      (pss_cons (ps_fld (pv 0) (pv 3) rfl)
      (pss_cons (ps_fld (pv 0) (pv 4) rfl)
      (pss_one (ps_fld (pv 0) (pv 5) rfl)))))), ?_⟩
    refine ⟨_, rfl, _, rfl, p, _, dx, [], rfl, hp, T.cl_Rule, T.na_Rule_first, (by show 0 < 1000; decide), ?_⟩
    refine ⟨_, rfl, _, rfl, p, _, dx, _, rfl, upd_same, T.cl_Rule, T.na_Rule_times, (by show 1 < 1000; decide), ?_⟩
    refine ⟨_, rfl, _, rfl, p, _, dx, _, rfl, upd_same, T.cl_Rule, T.na_Rule_top, (by show 2 < 1000; decide), ?_⟩
    refine ⟨_, rfl, _, rfl, p, _, dx, _, rfl, upd_same, T.cl_Rule, T.na_Rule_burst, (by show 3 < 1000; decide), ?_⟩
    refine ⟨_, rfl, _, rfl, p, _, dx, _, rfl, upd_same, T.cl_Rule, T.na_Rule_span, (by show 4 < 1000; decide), ?_⟩
    refine q _ upd_same fun c o h n => ?_
    rw [upd_ne n, upd_ne n, upd_ne n, upd_ne n, upd_ne n]
    exact h

def sp_law_rule (K : PySem.W.Frag) : Sp := fun vs H Q _ => ∃ (v : Addr) (f m t b s : Int), vs = [.ref v] ∧ SqT K H v [.int f, .int m, .int t, .int b, .int s] ∧
  ∀ a H', H a = none → Same H H' → RuleAt K H' a f m t b s → Q (.ref a) H'
theorem ok_law_rule (T : Txt K mg) : FnOk P w K mg base CX0 3 (He.fAd K ("_law_rule", none)) T.d_law_rule ["_law_five"] (sp_law_rule K) := by
  refine T.F_law_rule.ok sc_law_rule (fun vs H Q E h => ?_) (fun cdv A outer s H vs Q E hr h => ?_)
  · obtain ⟨v, f, m, t, b, s, rfl, _⟩ := h
    rfl
  · obtain ⟨v, f, m, t, b, s, rfl, hv, q⟩ := h
    refine ⟨_, PSs.nox (pss_one (ps_ret (pe_makeK0 T.mk_Rule (ok_Rule_init T) (hr.mono (by decide)) (by rfl) T.m_Rule T.kb_Rule_init_1_first_times_top_burst_span.choose_spec pass0 (pk_cons (pe_ix ix_tup (pv 0) pe_int (fun _ _ => rfl)) (pk_cons (pe_ix ix_tup (pv 0) pe_int (fun _ _ => rfl)) (pk_cons (pe_ix ix_tup (pv 0) pe_int (fun _ _ => rfl)) (pk_cons (pe_ix ix_tup (pv 0) pe_int (fun _ _ => rfl)) (pk_cons (pe_ix ix_tup (pv 0) pe_int (fun _ _ => rfl)) pk_nil)))))))), ?_⟩
    refine ⟨_, rfl, v, _, _, _, rfl, rfl, hv, at0, _, rfl, v, _, _, _, rfl, rfl, hv, at1, _, rfl, v, _, _, _, rfl, rfl, hv, at2, _, rfl, v, _, _, _, rfl, rfl, hv, at3, _, rfl, v, _, _, _, rfl, rfl, hv, at4, rfl, rfl, fun x dx nx nd ne => ?_⟩
    refine ⟨x, dx, f, m, t, b, s, rfl, upd_same, fun H' w kp => ⟨rfl, q x H' nx (Same.made nx nd fun b o e n => kp b o e n) ⟨dx, w⟩⟩⟩

/-! ### waits -/
/-- the wait of a fall with k of its row ahead of it -/
def waitV (f m t b : Int) (k : Nat) : V := if (k : Int) = b then .non else .int (if t < f * m ^ k then t else f * m ^ k)
def sp_wait_behind (K : PySem.W.Frag) : Sp := fun vs H Q _ => ∃ (a : Addr) (k : Nat) (f m t b s : Int), vs = [.ref a, .int k] ∧ RuleAt K H a f m t b s ∧ Five f m t b s ∧ (k : Int) ≤ b ∧ Q (waitV f m t b k) H
theorem ok_wait_behind (T : Txt K mg) : FnOk P w K mg base CX0 1 (He.fAd K ("wait_behind", none)) T.d_wait_behind ["rule", "ahead"] (sp_wait_behind K) := by
  refine T.F_wait_behind.ok sc_wait_behind (fun vs H Q E h => ?_) (fun cdv A outer s H vs Q E hr h => ?_)
  · obtain ⟨a, k, f, m, t, b, s, rfl, _⟩ := h
    rfl
  · obtain ⟨a, k, f, m, t, b, s, rfl, ⟨dx, ha⟩, F, hk, q⟩ := h
    refine ⟨_, PSs.nox (pss_cons (ps_if (pt_cmpR op_eq (pv 1) (pe_fld (pv 0) rfl) (nomark _))
      (pss_one (ps_ret pe_non))
      pss_nil)
      (pss_cons (ps_set (i := 2) sc_wait_behind.nd rfl (Or.inl rfl) (pe_fld (pv 0) rfl))
      (pss_cons (ps_for PassesOwn.never rfl (pi_range1 (by rfl) T.n_range (pa_cons (pv 1) pa_nil)) (pg_name (i := 3) sc_wait_behind.nd rfl (Or.inl rfl))
      (pss_one (ps_aug (i := 2) sc_wait_behind.nd rfl (.inl rfl) (pe_fld (pv 0) rfl) ip_mul)))
      (pss_one (ps_ret (pe_callB (id := "min")  (call_min2 rfl) (by rfl) T.n_min (by decide +kernel) (pa_cons (pv 2) (pa_cons (pe_fld (pv 0) rfl) pa_nil)))))))), ?_⟩
    -- if ahead == rule.burst
    refine ⟨_, rfl, _, rfl, a, _, dx, _, _, rfl, ha, T.cl_Rule, T.na_Rule_burst, rfl, rfl, _, rfl, ?_⟩
    refine ite2 (fun hc => ?_) (fun hc => ?_)
    · have e : (k : Int) = b := by
        have := of_decide_eq_true hc
        cases this
        rfl
      have e2 : waitV f m t b k = .non := by
        unfold waitV
        rw [if_pos e]
      rw [e2] at q
      exact q
    · have e : ¬ (k : Int) = b := fun e => hc (decide_eq_true (by rw [e]))
      -- wait = rule.first; for step in range(ahead)
      refine ⟨_, rfl, a, _, dx, _, _, rfl, ha, T.cl_Rule, T.na_Rule_first, rfl, ?_⟩
      have hb2 := F.b2
      refine ⟨_, rfl, (k : Int), rfl, by omega, by omega, for_range (lo := 0) (n := (k : Int).toNat) (fun i σ H' => H' = H ∧ ∃ y, σ = [some (.ref a), some (.int k), some (.int (f * m ^ i)), y]) ⟨rfl, none, by rw [Int.pow_zero, Int.mul_one]; rfl⟩ ?_ ?_⟩
      · rintro i σ H' hi ⟨rfl, y, rfl⟩
        have m1 := F.m1
        have m2 := F.m2
        refine ⟨_, rfl, _, rfl, a, _, dx, _, _, rfl, ha, T.cl_Rule, T.na_Rule_times, rfl, _, _, rfl, rfl, .inr ⟨by omega, by omega⟩, rfl, some (.int (0 + (i : Nat))), ?_⟩
        rw [Int.pow_succ, ← Int.mul_assoc]
        rfl
      · rintro σ H' ⟨rfl, y, rfl⟩
        refine ⟨_, rfl, _, rfl, a, _, dx, _, _, rfl, ha, T.cl_Rule, T.na_Rule_top, rfl, _, _, rfl, ?_⟩
        have e2 : waitV f m t b k = .int (if t < f * m ^ (k : Int).toNat then t else f * m ^ (k : Int).toNat) := by
          unfold waitV
          rw [if_neg e, Int.toNat_natCast]
        rw [e2] at q
        exact q
/-- how many of its row are ahead of the i-th fall; what the loop has kept ahead of it -/
def kOf (b s : Int) (ts : List Int) : Nat → Nat
  | 0 => 0
  | i + 1 => if ts.getD (i + 1) 0 - ts.getD i 0 > s then 0 else if (kOf b s ts i : Int) = b then 0 else kOf b s ts i + 1
def nxt (b s : Int) (ts : List Int) : Nat → Nat
  | 0 => 0
  | i + 1 => if (kOf b s ts i : Int) = b then 0 else kOf b s ts i + 1
theorem kOf_le {b s : Int} {ts : List Int} (hb : 0 ≤ b) : ∀ i, (kOf b s ts i : Int) ≤ b
  | 0 => hb
  | i + 1 => by
    have ih := kOf_le (s := s) (ts := ts) hb i
    unfold kOf
    split
    · exact hb
    · split
      · exact hb
      · omega
theorem kOf_step (b s : Int) (ts : List Int) (i : Nat) : kOf b s ts i = if 0 < i ∧ ts.getD i 0 - ts.getD (i - 1) 0 > s then 0 else nxt b s ts i := by
  cases i with
  | zero => rfl
  | succ i =>
    by_cases h : ts.getD (i + 1) 0 - ts.getD i 0 > s
    · rw [if_pos (show 0 < i + 1 ∧ ts.getD (i + 1) 0 - ts.getD (i + 1 - 1) 0 > s from ⟨Nat.succ_pos i, h⟩)]
      unfold kOf
      rw [if_pos h]
    · rw [if_neg (show ¬ (0 < i + 1 ∧ ts.getD (i + 1) 0 - ts.getD (i + 1 - 1) 0 > s) from fun z => h z.2)]
      unfold kOf
      rw [if_neg h]
      rfl
def waitsF (f m t b s : Int) (ts : List Int) : List V := (List.range ts.length).map fun i => waitV f m t b (kOf b s ts i)
theorem waitsF_len (f m t b s : Int) (ts : List Int) : (waitsF f m t b s ts).length = ts.length := by
  unfold waitsF
  rw [List.length_map, List.length_range]
def sp_waits (K : PySem.W.Frag) : Sp := fun vs H Q _ => ∃ (a l : Addr) (f m t b s : Int) (ts : List Int), vs = [.ref a, .ref l] ∧ RuleAt K H a f m t b s ∧ Five f m t b s ∧ SqL K H l (ts.map V.int) ∧ ts.length ≤ 1000 ∧
  ∀ p H', H p = none → Same H H' → H' p = some (.lst (waitsF f m t b s ts)) → Q (.ref p) H'
theorem range_map_succ {α : Type} (g : Nat → α) (n : Nat) : (List.range (n + 1)).map g = (List.range n).map g ++ [g n] := by
  rw [List.range_succ, List.map_append]
  rfl
theorem ok_waits (T : Txt K mg) : FnOk P w K mg base CX0 2 (He.fAd K ("waits", none)) T.d_waits ["rule", "falls"] (sp_waits K) := by
  refine T.F_waits.ok sc_waits (fun vs H Q E h => ?_) (fun cdv A outer s H vs Q E hr h => ?_)
  · obtain ⟨a, l, f, m, t, b, s, ts, rfl, _⟩ := h
    rfl
  · obtain ⟨a, l, f, m, t, b, s, ts, rfl, hR, F, hS, hlen, q⟩ := h
    refine ⟨_, PSs.nox (pss_cons (ps_set (i := 2) sc_waits.nd rfl (Or.inl rfl) (pe_lst pa_nil))
      (pss_cons (ps_set (i := 3) sc_waits.nd rfl (Or.inl rfl) pe_int)
      (pss_cons (ps_for PassesOwn.never rfl (pi_enum (by rfl) T.n_enumerate (pa_cons (pv 1) pa_nil)) (pg_tup rfl (pgs_cons (pg_name (i := 4) sc_waits.nd rfl (Or.inl rfl)) (pgs_cons (pg_name (i := 5) sc_waits.nd rfl (Or.inl rfl)) pgs_nil)))
      (pss_mid (ps_if (PW.pt (pw_and (pt_cmpR op_gt (pv 4) pe_int (nomark _)) (pw_and1 (pt_cmpR op_gt (pe_op op_sub (pv 5) (pe_ix ix_list (pv 1) (pe_op op_sub (pv 4) pe_int) (fun _ _ => rfl))) (pe_fld (pv 0) rfl) (nomark _)))))
      (pss_one (ps_set (i := 3) sc_waits.nd rfl (Or.inl rfl) pe_int))
      pss_nil)
      (pss_cons (ps_set (i := 6) sc_waits.nd rfl (Or.inl rfl) (pe_call (ok_wait_behind T) (hr.mono (by decide)) (by rfl) T.m_wait_behind T.F_wait_behind.kp T.b_wait_behind .nil pass0 (pa_cons (pv 0) (pa_cons (pv 3) pa_nil))))
      (pss_cons (ps_expr (pe_bm PySem.F.plainAttrs_list PySem.F.slot_list_append PySem.F.type_list_append mt_append (pv 2) (pa_cons (pv 6) pa_nil)))
      (pss_one (ps_set (i := 3) sc_waits.nd rfl (Or.inl rfl) (pe_ifExp (pt_cmpR op_isN (pv 6) pe_non (nomark _)) pe_int (pe_op op_add (pv 3) pe_int))))))))
      (pss_one (ps_ret (pv 2)))))), ?_⟩
    -- told = []; ahead = 0
    refine ⟨by show 0 ≤ sizeLine; decide, fun p np => ?_⟩
    generalize hE : upd H p _ = H1
    have w1 := new_at hE
    have s1 := new_same hE np
    refine ⟨_, rfl, l, _, rfl, s1.seq hS, for_enum2 (xs := ts.map V.int) (fun i σ H' => Same H H' ∧ H' p = some (.lst ((List.range i).map fun i => waitV f m t b (kOf b s ts i))) ∧ ∃ y z u, σ = [some (.ref a), some (.ref l), some (.ref p), some (.int (nxt b s ts i)), y, z, u])
      ⟨s1, w1, none, none, none, rfl⟩ (fun i σ H' _ hP => hP.1.seq hS) ?_ ?_⟩
    · rintro i x σ H2 H3 hx ⟨s2, w2, y, z, u, rfl⟩ s3
      have hi : i < ts.length := by
        have := (List.getElem?_eq_some_iff.mp hx).1
        rwa [List.length_map] at this
      have gi : (ts.map V.int)[i]? = some (.int (ts.getD i 0)) := by
        rw [List.getElem?_map, List.getElem?_eq_getElem hi]
        show some (V.int ts[i]) = some (V.int ((ts[i]?).getD 0))
        rw [List.getElem?_eq_getElem hi]
        rfl
      have ex : x = .int (ts.getD i 0) := Option.some.inj (hx.symm.trans gi)
      subst ex
      have sH := s2.trans s3
      have hS3 := sH.seq hS
      obtain ⟨dx, ha⟩ := hR.same sH
      have w3 := s3 _ _ w2
      have hb1 := F.b1
      have kle := kOf_le (s := s) (ts := ts) hb1 i
      have step := kOf_step b s ts i
      refine ⟨fun σ H' => H' = H3 ∧ ∃ y z u, σ = [some (.ref a), some (.ref l), some (.ref p), some (.int (kOf b s ts i)), y, z, u], ?_, ?_⟩
      · refine ⟨_, rfl, _, _, rfl, rfl, _, rfl, ?_⟩
        refine ite2 (fun hc => ?_) (fun hc => ?_)
        · -- at > 0
          have hi0 : 0 < i := by
            have := of_decide_eq_true hc
            omega
          have gp : (ts.map V.int)[i - 1]? = some (.int (ts.getD (i - 1) 0)) := by
            have hi' : i - 1 < ts.length := by omega
            rw [List.getElem?_map, List.getElem?_eq_getElem hi']
            show some (V.int ts[i - 1]) = some (V.int ((ts[i - 1]?).getD 0))
            rw [List.getElem?_eq_getElem hi']
            rfl
          have ei : (i : Int) - 1 = ((i - 1 : Nat) : Int) := by omega
          refine ⟨_, rfl, _, rfl, _, rfl, _, _, rfl, rfl, l, _, _, _, rfl, rfl, hS3, at_of ei gp, _, _, rfl, rfl, _, rfl, a, _, dx, _, _, rfl, ha, T.cl_Rule, T.na_Rule_span, rfl, _, _, rfl, rfl, _, rfl, ?_⟩
          refine ite2 (fun hd => ?_) (fun hd => ?_)
          · have hd' : ts.getD i 0 - ts.getD (i - 1) 0 > s := of_decide_eq_true hd
            rw [if_pos ⟨hi0, hd'⟩] at step
            rw [step]
            exact ⟨rfl, _, _, _, rfl⟩
          · have hd' : ¬ ts.getD i 0 - ts.getD (i - 1) 0 > s := fun z => hd (decide_eq_true z)
            rw [if_neg (fun z => hd' z.2)] at step
            rw [step]
            exact ⟨rfl, _, _, _, rfl⟩
        · have hi0 : ¬ 0 < i := fun z => hc (decide_eq_true (by omega))
          rw [if_neg (fun z => hi0 z.1)] at step
          refine iteF ?_
          rw [step]
          exact ⟨rfl, _, _, _, rfl⟩
      · rintro σ H' ⟨rfl, y, z, u, rfl⟩
        -- wait = wait_behind(rule, ahead); told.append(wait)
        refine ⟨_, rfl, _, rfl, a, kOf b s ts i, f, m, t, b, s, rfl, ⟨dx, ha⟩, F, kle, ?_⟩
        refine ⟨_, rfl, .inl ⟨rfl, _, SqL.of w3⟩, _, rfl, p, _, _, rfl, rfl, w3, ?_, ?_⟩
        · rw [List.length_map, List.length_range]
          exact small1000 (by omega)
        -- ahead = 0 if wait is None else ahead + 1
        generalize hE4 : upd H' p _ = H4
        have w4 : H4 p = some (.lst ((List.range (i + 1)).map fun i => waitV f m t b (kOf b s ts i))) := by
          rw [range_map_succ]
          exact new_at hE4
        have s4 : Same H H4 := Same.own sH (mut_keep hE4) np
        refine ⟨_, rfl, rfl, _, rfl, ?_⟩
        by_cases hb : (kOf b s ts i : Int) = b
        · have e1 : waitV f m t b (kOf b s ts i) = .non := by
            unfold waitV
            rw [if_pos hb]
          have e2 : nxt b s ts (i + 1) = 0 := by
            show (if (kOf b s ts i : Int) = b then 0 else kOf b s ts i + 1) = 0
            rw [if_pos hb]
          refine iteYd e1 ?_
          refine ⟨s4, w4, y, z, some (waitV f m t b (kOf b s ts i)), ?_⟩
          rw [e2]
          rfl
        · have e1 : ¬ waitV f m t b (kOf b s ts i) = .non := by
            unfold waitV
            rw [if_neg hb]
            intro z
            cases z
          have e2 : nxt b s ts (i + 1) = kOf b s ts i + 1 := by
            show (if (kOf b s ts i : Int) = b then 0 else kOf b s ts i + 1) = _
            rw [if_neg hb]
          refine iteNd e1 ?_
          refine ⟨_, rfl, _, _, rfl, rfl, s4, w4, y, z, some (waitV f m t b (kOf b s ts i)), ?_⟩
          rw [e2]
          rfl
    · rintro σ H2 ⟨s2, w2, y, z, u, rfl⟩
      rw [List.length_map] at w2
      exact ⟨_, rfl, q p H2 np s2 w2⟩

/-! ### k03: the mathematics of rows -/
/-- two ahead-counts alike: the items differ alike -/
theorem kOf_congr {b s : Int} {ts us : List Int} : ∀ (n : Nat), (∀ i, i < n → us.getD (i + 1) 0 - us.getD i 0 = ts.getD (i + 1) 0 - ts.getD i 0) → kOf b s us n = kOf b s ts n
  | 0, _ => rfl
  | n + 1, h => by
    have ih := kOf_congr (b := b) (s := s) n fun i hi => h i (by omega)
    unfold kOf
    rw [h n (by omega), ih]
/-- from a place where a row begins -/
theorem kOf_from {b s : Int} {ts us : List Int} {c : Nat} (h0 : kOf b s ts c = 0) : ∀ (n : Nat), (∀ i, i < n → us.getD (i + 1) 0 - us.getD i 0 = ts.getD (c + i + 1) 0 - ts.getD (c + i) 0) → kOf b s ts (c + n) = kOf b s us n
  | 0, _ => h0
  | n + 1, h => by
    have ih := kOf_from (us := us) h0 n fun i hi => h i (by omega)
    show kOf b s ts ((c + n) + 1) = kOf b s us (n + 1)
    unfold kOf
    rw [h n (by omega), ih]
theorem getD_left {ts us : List Int} {i : Nat} (h : i < ts.length) : (ts ++ us).getD i 0 = ts.getD i 0 := by
  rw [List.getD_eq_getElem?_getD, List.getD_eq_getElem?_getD, List.getElem?_append_left h]
theorem getD_right {ts us : List Int} {i : Nat} : (ts ++ us).getD (ts.length + i) 0 = us.getD i 0 := by
  rw [List.getD_eq_getElem?_getD, List.getD_eq_getElem?_getD, List.getElem?_append_right (Nat.le_add_right _ _), Nat.add_sub_cancel_left]
theorem map_range_congr {α : Type} {f g : Nat → α} {n : Nat} (h : ∀ i, i < n → f i = g i) : (List.range n).map f = (List.range n).map g :=
  List.map_congr_left fun i hi => h i (List.mem_range.mp hi)
theorem range_split {α : Type} (f : Nat → α) (n : Nat) : ∀ m, (List.range (n + m)).map f = (List.range n).map f ++ (List.range m).map fun i => f (n + i)
  | 0 => by simp
  | m + 1 => by
    rw [show n + (m + 1) = (n + m) + 1 from rfl, range_map_succ, range_split f n m, range_map_succ (fun i => f (n + i)), List.append_assoc]
/-- rows one behind another -/
theorem waitsF_append {f m t b s : Int} {ts us : List Int} (h : ts = [] ∨ us = [] ∨ us.getD 0 0 - ts.getD (ts.length - 1) 0 > s) : waitsF f m t b s (ts ++ us) = waitsF f m t b s ts ++ waitsF f m t b s us := by
  by_cases hu : us = []
  · subst hu
    rw [List.append_nil]
    show _ = waitsF f m t b s ts ++ []
    rw [List.append_nil]
  · have hu0 : 0 < us.length := List.length_pos_iff.mpr hu
    unfold waitsF
    rw [List.length_append, range_split]
    have h0 : kOf b s (ts ++ us) ts.length = 0 := by
      by_cases ht : ts = []
      · subst ht
        rfl
      · have ht0 : 0 < ts.length := List.length_pos_iff.mpr ht
        have hd : us.getD 0 0 - ts.getD (ts.length - 1) 0 > s := by
          rcases h with h | h | h
          · exact absurd h ht
          · exact absurd h hu
          · exact h
        obtain ⟨n, hn⟩ : ∃ n, ts.length = n + 1 := ⟨ts.length - 1, by omega⟩
        rw [hn]
        unfold kOf
        rw [← hn, show ts.length = ts.length + 0 from rfl, getD_right, getD_left (by omega), if_pos (by rw [hn] at hd; exact hd)]
    congr 1
    · exact map_range_congr fun i hi => by
        rw [kOf_congr (ts := ts) i fun j hj => by rw [getD_left (by omega), getD_left (by omega)]]
    · exact map_range_congr fun i hi => by
        rw [kOf_from (us := us) h0 i fun j hj => by rw [show ts.length + j + 1 = ts.length + (j + 1) from rfl, getD_right, getD_right]]
theorem waitsF_take {f m t b s : Int} (ts : List Int) (n : Nat) : waitsF f m t b s (ts.take n) = (waitsF f m t b s ts).take n := by
  unfold waitsF
  rw [← List.map_take, List.take_range, List.length_take]
  exact map_range_congr fun i hi => by
    rw [kOf_congr (ts := ts) i fun j hj => by
      rw [List.getD_eq_getElem?_getD, List.getD_eq_getElem?_getD, List.getElem?_take_of_lt (by omega), List.getElem?_take_of_lt (by omega), ← List.getD_eq_getElem?_getD, ← List.getD_eq_getElem?_getD]]
theorem waitsF_shift {f m t b s : Int} (ts : List Int) (d : Int) : waitsF f m t b s (ts.map (· + d)) = waitsF f m t b s ts := by
  unfold waitsF
  rw [List.length_map]
  exact map_range_congr fun i hi => by
    rw [kOf_congr (ts := ts) i fun j hj => by
      have e : ∀ k, k < ts.length → (ts.map (· + d)).getD k 0 = ts.getD k 0 + d := fun k hk => by
        rw [List.getD_eq_getElem?_getD, List.getD_eq_getElem?_getD, List.getElem?_map, List.getElem?_eq_getElem hk]
        rfl
      rw [e _ (by omega), e _ (by omega)]
      omega]
/-- within one row -/
def Near (s : Int) (r : List Int) : Prop := ∀ i, i + 1 < r.length → r.getD (i + 1) 0 - r.getD i 0 ≤ s
theorem kOf_near {b s : Int} {r : List Int} (h : Near s r) : ∀ i, i < r.length → (i : Int) ≤ b → kOf b s r i = i
  | 0, _, _ => rfl
  | i + 1, h1, h2 => by
    have ih := kOf_near (b := b) h i (by omega) (by omega)
    have hn := h i h1
    unfold kOf
    rw [if_neg (by omega), ih, if_neg (by omega)]
/-- behind one that is given up -/
theorem waitsF_drop {f m t b s : Int} {r : List Int} {c : Nat} (h : Near s r) (hc : c < r.length) (hb : (c : Int) = b) : (waitsF f m t b s r).drop (c + 1) = waitsF f m t b s (r.drop (c + 1)) := by
  have hk := kOf_near (b := b) h c hc (by omega)
  by_cases hl : c + 1 < r.length
  · have h0 : kOf b s r (c + 1) = 0 := by
      unfold kOf
      rw [if_neg (by have := h c hl; omega), hk, if_pos hb]
    unfold waitsF
    rw [List.length_drop]
    obtain ⟨n, hn⟩ : ∃ n, r.length = (c + 1) + n := ⟨r.length - (c + 1), by omega⟩
    rw [hn, range_split, List.drop_append_of_le_length (by rw [List.length_map, List.length_range]; exact Nat.le_refl _), List.drop_of_length_le (by rw [List.length_map, List.length_range]; exact Nat.le_refl _), List.nil_append, Nat.add_sub_cancel_left]
    exact map_range_congr fun i hi => by
      rw [kOf_from (us := r.drop (c + 1)) h0 i fun j hj => by
        rw [List.getD_eq_getElem?_getD, List.getD_eq_getElem?_getD, List.getElem?_drop, List.getElem?_drop, ← List.getD_eq_getElem?_getD, ← List.getD_eq_getElem?_getD]
        rfl]
  · rw [List.drop_of_length_le (by rw [waitsF_len]; omega), List.drop_of_length_le (by omega)]
    rfl
theorem waitsF_get {f m t b s : Int} {r : List Int} {i : Nat} {x : V} (h : (waitsF f m t b s r)[i]? = some x) : i < r.length ∧ x = waitV f m t b (kOf b s r i) := by
  have hi := (List.getElem?_eq_some_iff.mp h).1
  rw [waitsF_len] at hi
  unfold waitsF at h
  rw [List.getElem?_map, List.getElem?_range hi] at h
  exact ⟨hi, (Option.some.inj h).symm⟩
/-- the number that a wait is, while it is none given up -/
def waitN (f m t : Int) (k : Nat) : Int := if t < f * m ^ k then t else f * m ^ k
theorem waitV_N {f m t b : Int} {k : Nat} (h : ¬ (k : Int) = b) : waitV f m t b k = .int (waitN f m t k) := by
  unfold waitV waitN
  rw [if_neg h]
theorem pow_pos' {m : Int} (h : 1 ≤ m) : ∀ k : Nat, 1 ≤ m ^ k
  | 0 => by rw [Int.pow_zero]; exact Int.le_refl _
  | k + 1 => by
    rw [Int.pow_succ]
    have := Int.mul_le_mul (pow_pos' h k) h (by decide) (Int.le_trans (by decide) (pow_pos' h k))
    simpa using this
theorem waitN_mono {f m t : Int} (hf : 1 ≤ f) (hm : 1 ≤ m) (k : Nat) : waitN f m t k ≤ waitN f m t (k + 1) := by
  have h1 : f * m ^ k ≤ f * m ^ (k + 1) := by
    rw [Int.pow_succ]
    refine Int.mul_le_mul_of_nonneg_left ?_ (by omega)
    have := Int.mul_le_mul (Int.le_refl (m ^ k)) hm (by decide) (Int.le_trans (by decide) (pow_pos' hm k))
    simpa using this
  unfold waitN
  split <;> split <;> omega
theorem waitN_top (f m t : Int) (k : Nat) : waitN f m t k ≤ t := by
  unfold waitN
  split <;> omega
theorem waitN_low {f m t : Int} (hf : 1 ≤ f) (hm : 1 ≤ m) (k : Nat) : (if t < f then t else f) ≤ waitN f m t k := by
  have h1 : f ≤ f * m ^ k := by
    have := Int.mul_le_mul_of_nonneg_left (pow_pos' hm k) (show 0 ≤ f by omega)
    simpa using this
  unfold waitN
  split <;> split <;> omega
theorem waitN_pos {f m t : Int} (hf : 1 ≤ f) (hm : 1 ≤ m) (ht : 1 ≤ t) (k : Nat) : 0 ≤ waitN f m t k := by
  have := waitN_low (t := t) hf hm k
  revert this
  split <;> omega

/-! ### k03: rows drawn -/
/-- lists of ints that stand -/
inductive ListsAt (H : Hp) : List Addr → List (List Int) → Prop
  | nil : ListsAt H [] []
  | snoc {qs : List Addr} {rs : List (List Int)} {q : Addr} {r : List Int} (h : ListsAt H qs rs) (e : H q = some (.lst (r.map V.int))) : ListsAt H (qs ++ [q]) (rs ++ [r])
theorem ListsAt.len {H : Hp} {qs : List Addr} {rs : List (List Int)} (h : ListsAt H qs rs) : qs.length = rs.length := by
  induction h with
  | nil => rfl
  | snoc _ _ ih => rw [List.length_append, List.length_append, ih]; rfl
theorem ListsAt.keep {H H' : Hp} {qs : List Addr} {rs : List (List Int)} (h : ListsAt H qs rs) (k : ∀ q ∈ qs, ∀ o, H q = some o → H' q = some o) : ListsAt H' qs rs := by
  induction h with
  | nil => exact .nil
  | snoc _ e ih => exact .snoc (ih fun q hq o => k q (List.mem_append_left _ hq) o) (k _ (List.mem_append_right _ (List.mem_singleton.mpr rfl)) _ e)
theorem ListsAt.same {H H' : Hp} {qs : List Addr} {rs : List (List Int)} (h : ListsAt H qs rs) (s : Same H H') : ListsAt H' qs rs := h.keep fun q _ o e => s q o e
theorem ListsAt.get {H : Hp} {qs : List Addr} {rs : List (List Int)} (h : ListsAt H qs rs) : ∀ (j : Nat) (q : Addr), qs[j]? = some q → ∃ r, rs[j]? = some r ∧ H q = some (.lst (r.map V.int)) := by
  induction h with
  | nil => intro j q hq; simp at hq
  | @snoc qs rs q r h e ih =>
    intro j x hx
    have hl := h.len
    by_cases hj : j < qs.length
    · rw [List.getElem?_append_left hj] at hx
      rw [List.getElem?_append_left (by omega)]
      exact ih j x hx
    · rw [List.getElem?_append_right (by omega)] at hx
      have e0 : j - qs.length = 0 := by
        cases q : j - qs.length with
        | zero => rfl
        | succ z => rw [q] at hx; simp at hx
      rw [e0] at hx
      cases hx
      refine ⟨r, ?_, e⟩
      rw [List.getElem?_append_right (by omega), ← hl, e0]
      rfl
/-- x lies more than g behind the last of the rows -/
def Beyond (g : Int) (rs : List (List Int)) (x : Int) : Prop := ∀ r, rs.getLast? = some r → x - r.getD (r.length - 1) 0 > g
def GoodRows (g : Int) (rs : List (List Int)) : Prop := ∀ (j : Nat) r, rs[j]? = some r → r ≠ [] ∧ Near g r ∧ r.length ≤ 25 ∧ Beyond g (rs.take j) (r.getD 0 0)
theorem goodRows_snoc {g : Int} {rs : List (List Int)} {r : List Int} (h : GoodRows g rs) (h1 : r ≠ []) (h2 : Near g r) (h3 : r.length ≤ 25) (h4 : Beyond g rs (r.getD 0 0)) : GoodRows g (rs ++ [r]) := by
  intro j x hx
  by_cases hj : j < rs.length
  · rw [List.getElem?_append_left hj] at hx
    rw [List.take_append_of_le_length (Nat.le_of_lt hj)]
    exact h j x hx
  · rw [List.getElem?_append_right (by omega)] at hx
    have e0 : j - rs.length = 0 := by
      cases q : j - rs.length with
      | zero => rfl
      | succ z => rw [q] at hx; simp at hx
    rw [e0] at hx
    cases hx
    rw [show j = rs.length by omega, List.take_left]
    exact ⟨h1, h2, h3, h4⟩
theorem near_snoc {g : Int} {r : List Int} {x : Int} (h : Near g r) (hx : r = [] ∨ x - r.getD (r.length - 1) 0 ≤ g) : Near g (r ++ [x]) := by
  intro i hi
  rw [List.length_append] at hi
  have hi' : i + 1 < r.length + 1 := hi
  by_cases h1 : i + 1 < r.length
  · rw [getD_left h1, getD_left (by omega)]
    exact h i h1
  · have e : i + 1 = r.length := by omega
    have hr : r ≠ [] := fun z => by rw [z] at e; simp at e
    rcases hx with hx | hx
    · exact absurd hx hr
    · rw [e, show r.length = r.length + 0 from rfl, getD_right, getD_left (by omega)]
      rw [show r.length - 1 = i by omega] at hx
      exact hx
theorem last_snoc (r : List Int) (x : Int) : (r ++ [x]).getD ((r ++ [x]).length - 1) 0 = x := by
  rw [List.length_append]
  show (r ++ [x]).getD (r.length + 0) 0 = x
  rw [getD_right]
  rfl
def sp_law_rows (K : PySem.W.Frag) : Sp := fun vs H Q _ => ∃ (p : Addr) (g : Int) (n : Nat), vs = [.ref p, .int g] ∧ Bag n H p ∧ n < 700000000 ∧ 0 ≤ g ∧ g ≤ 1000000 ∧
  ∀ (R : Addr) H' (qs : List Addr) (rs : List (List Int)), H R = none → (∀ q ∈ qs, H q = none) → Kp p H H' → Bag (n + 700) H' p → H' R = some (.lst (qs.map V.ref)) → ListsAt H' qs rs → GoodRows g rs → rs.length ≤ 6 → Q (.ref R) H'
structure RowsI (H : Hp) (p R : Addr) (g : Int) (n : Nat) (qs : List Addr) (rs : List (List Int)) (H' : Hp) : Prop where
  bag : Bag n H' p
  kp : Kp p H H'
  fr : ∀ q ∈ qs, H q = none
  nR : R ∉ qs
  wR : H' R = some (.lst (qs.map V.ref))
  li : ListsAt H' qs rs
  gd : GoodRows g rs
theorem RowsI.same {H : Hp} {p R : Addr} {g : Int} {n : Nat} {qs : List Addr} {rs : List (List Int)} {H' H2 : Hp} (h : RowsI H p R g n qs rs H') (s : Same H' H2) : RowsI H p R g n qs rs H2 :=
  ⟨h.bag.same s, h.kp.same s, h.fr, h.nR, s _ _ h.wR, h.li.same s, h.gd⟩
theorem RowsI.take {H : Hp} {p R : Addr} {g : Int} {n m : Nat} {qs : List Addr} {rs : List (List Int)} {H' H2 : Hp} (h : RowsI H p R g n qs rs H') (hp : ∃ o, H p = some o) (hR : R ≠ p) (b : Bag m H2 p) (k : Kp p H' H2) : RowsI H p R g m qs rs H2 := by
  obtain ⟨o, ho⟩ := hp
  exact ⟨b, h.kp.trans k, h.fr, h.nR, k _ _ h.wR hR, h.li.keep fun q hq x e => k q x e (fun z => by rw [z] at hq; have := h.fr _ hq; rw [ho] at this; cases this), h.gd⟩
theorem RowsI.own {H : Hp} {p R w : Addr} {g : Int} {n : Nat} {qs : List Addr} {rs : List (List Int)} {H' H2 : Hp} (h : RowsI H p R g n qs rs H') (hw : H w = none) (hwq : w ∉ qs) (hwR : w ≠ R) (hwp : w ≠ p) (k : Kp w H' H2) : RowsI H p R g n qs rs H2 :=
  ⟨h.bag.keep k hwp.symm, h.kp.own k hw, h.fr, h.nR, k _ _ h.wR hwR.symm, h.li.keep fun q hq x e => k q x e fun z => hwq (z ▸ hq), h.gd⟩
theorem RowsI.bagLe {H : Hp} {p R : Addr} {g : Int} {n m : Nat} {qs : List Addr} {rs : List (List Int)} {H' : Hp} (h : RowsI H p R g n qs rs H') (l : n ≤ m) : RowsI H p R g m qs rs H' :=
  ⟨h.bag.le l, h.kp, h.fr, h.nR, h.wR, h.li, h.gd⟩
theorem RowsI.tracked {H : Hp} {qs : List Addr} {rs : List (List Int)} (h : ListsAt H qs rs) : ∀ q ∈ qs, ∃ o, H q = some o := by
  induction h with
  | nil => intro q hq; cases hq
  | snoc _ e ih =>
    intro q hq
    rcases List.mem_append.mp hq with hq | hq
    · exact ih q hq
    · rw [List.mem_singleton.mp hq]
      exact ⟨_, e⟩
theorem ok_law_rows (T : Txt K mg) : FnOk P w K mg base CX0 2 (He.fAd K ("_law_rows", none)) T.d_law_rows ["_law_bag_here", "_law_gap"] (sp_law_rows K) := by
  refine T.F_law_rows.ok sc_law_rows (fun vs H Q E h => ?_) (fun cdv A outer s H vs Q E hr h => ?_)
  · obtain ⟨p, g, n, rfl, _⟩ := h
    rfl
  · obtain ⟨p, g, n, rfl, B, hn, hg0, hg1, q⟩ := h
    refine ⟨_, PSs.nox (pss_cons (ps_par (by rfl) sc_law_rows.nd (i := 2) (j := 3) rfl rfl (by decide) rfl rfl (pa_cons (pe_lst pa_nil) (pa_cons (pe_call (ok_law_take T) (hr.mono (by decide)) (by rfl) T.m_law_take T.F_law_take.kp T.b_law_take .nil pass0 (pa_cons (pv 0) (pa_cons pe_int pa_nil))) pa_nil)) (by rfl))
      (pss_cons (ps_for PassesOwn.never rfl (pi_range1 (by rfl) T.n_range (pa_cons (pe_call (ok_law_take T) (hr.mono (by decide)) (by rfl) T.m_law_take T.F_law_take.kp T.b_law_take .nil pass0 (pa_cons (pv 0) (pa_cons pe_int pa_nil))) pa_nil)) (pg_name (i := 4) sc_law_rows.nd rfl (Or.inl rfl))
      (pss_cons (ps_set (i := 5) sc_law_rows.nd rfl (Or.inl rfl) (pe_lst pa_nil))
      (pss_cons (ps_for PassesOwn.never rfl (pi_range1 (by rfl) T.n_range (pa_cons (pe_op op_add pe_int (pe_call (ok_law_take T) (hr.mono (by decide)) (by rfl) T.m_law_take T.F_law_take.kp T.b_law_take .nil pass0 (pa_cons (pv 0) (pa_cons (pe_ix ix_list (pe_lst (pa_cons pe_int (pa_cons pe_int pa_nil))) (pe_call (ok_law_take T) (hr.mono (by decide)) (by rfl) T.m_law_take T.F_law_take.kp T.b_law_take .nil pass0 (pa_cons (pv 0) (pa_cons pe_int pa_nil))) (fun _ _ => rfl)) pa_nil)))) pa_nil)) (pg_name (i := 6) sc_law_rows.nd rfl (Or.inl rfl))
      (pss_mid (ps_if (PW.pt (pw_and (pt_cmpR op_le (pv 3) (pe_op op_powL pe_int pe_int) (nomark _)) (pw_and1 (pt_cmpR op_lt (pe_op op_add (pe_callB (id := "len")  call_len_seq (by rfl) T.n_len (by decide +kernel) (pa_cons (pv 5) pa_nil)) (pe_callB (id := "sum")  (cr_sum rfl) (by rfl) T.n_sum (by decide +kernel) (pa_cons (pe_lc (own := [("_law_one", 7)]) (by rfl) sc_law_rows.nd (pi_list (pv 2)) (blkOk_by (own := [("_law_one", 7)]) (N := N_law_rows) (sc := defScope s_law_rows) (by decide +kernel)) (fun _ _ _ _ _ => (pg_name (i := 7) sc_law_rows.nd rfl (Or.inl rfl))) (fun _ _ _ _ _ => pts_nil) (fun _ _ _ _ _ => (pe_callB (id := "len")  (r := Evl.rLenS K) call_len_seq (by rfl) T.n_len (by decide +kernel) (pa_cons (pv 7) pa_nil)))) pa_nil))) pe_int (nomark _)))))
      (pss_one (ps_expr (pe_bm PySem.F.plainAttrs_list PySem.F.slot_list_append PySem.F.type_list_append mt_append (pv 5) (pa_cons (pv 3) pa_nil))))
      pss_nil)
      (pss_one (ps_set (i := 3) sc_law_rows.nd rfl (Or.inl rfl) (pe_op op_add (pv 3) (pe_ix ix_list (pe_lst (pa_cons pe_int (pa_cons (pv 1) (pa_cons (pe_call (ok_law_take T) (hr.mono (by decide)) (by rfl) T.m_law_take T.F_law_take.kp T.b_law_take .nil pass0 (pa_cons (pv 0) (pa_cons (pe_op op_add (pe_callB (id := "min")  (call_min2 rfl) (by rfl) T.n_min (by decide +kernel) (pa_cons (pv 1) (pa_cons pe_int pa_nil))) pe_int) pa_nil))) pa_nil)))) (pe_call (ok_law_take T) (hr.mono (by decide)) (by rfl) T.m_law_take T.F_law_take.kp T.b_law_take .nil pass0 (pa_cons (pv 0) (pa_cons pe_int pa_nil))) (fun _ _ => rfl)))))))
      (pss_one (ps_if (pt_cmpR (op_neD hr.units) (pv 5) (pe_lst pa_nil) (nomark _))
      (pss_cons (ps_expr (pe_bm PySem.F.plainAttrs_list PySem.F.slot_list_append PySem.F.type_list_append mt_append (pv 2) (pa_cons (pv 5) pa_nil)))
      (pss_one (ps_set (i := 3) sc_law_rows.nd rfl (Or.inl rfl) (pe_op op_add (pe_op op_add (pe_op op_add (pe_ix ix_list (pv 5) (pe_un un_neg pe_int) (fun _ _ => rfl)) (pv 1)) pe_int) (pe_call (ok_law_take T) (hr.mono (by decide)) (by rfl) T.m_law_take T.F_law_take.kp T.b_law_take .nil pass0 (pa_cons (pv 0) (pa_cons (pe_ix ix_list (pe_lst (pa_cons pe_int (pa_cons pe_int pa_nil))) (pe_call (ok_law_take T) (hr.mono (by decide)) (by rfl) T.m_law_take T.F_law_take.kp T.b_law_take .nil pass0 (pa_cons (pv 0) (pa_cons pe_int pa_nil))) (fun _ _ => rfl)) pa_nil)))))))
      pss_nil)))))
      (pss_one (ps_ret (pv 2))))), ?_⟩
    have hp := B.some
    -- rows, now = [], take(50)
    refine ⟨by show 0 ≤ sizeLine; decide, fun R nR => ?_⟩
    generalize hE : upd H R _ = H1
    have w1 := new_at hE
    have s1 := new_same hE nR
    have nRp := (B.ne nR).symm
    refine ⟨_, rfl, ?_⟩
    refine take_of (z := 50) (B.same s1) (by decide) (by decide) (by omega) fun now H2 _ _ B2 k2 => ?_
    refine ⟨_, _, rfl, ?_⟩
    -- range(take(7))
    refine ⟨_, rfl, ?_⟩
    refine take_of (z := 7) B2 (by decide) (by decide) (by omega) fun r3 H3 a3 b3 B3 k3 => ?_
    have I0 : RowsI H p R g (n + 2) [] [] H3 := ⟨B3, ((Kp.of s1).trans k2).trans k3, (fun q hq => nomatch hq), (fun hq => nomatch hq), k3 _ _ (k2 _ _ w1 nRp) nRp, .nil, (fun j r h => by simp at h)⟩
    refine ⟨r3, rfl, by omega, by omega, for_range (lo := 0) (n := r3.toNat) (fun i σ H' => ∃ (qs : List Addr) (rs : List (List Int)) (now : Int) (y1 y2 y3 y4 : Option V), RowsI H p R g (n + 2 + 60 * i) qs rs H' ∧ rs.length ≤ i ∧ Beyond g rs now ∧ σ = [some (.ref p), some (.int g), some (.ref R), some (.int now), y1, y2, y3, y4])
      ⟨[], [], now, none, none, none, none, I0, Nat.le_refl _, (fun r h => by simp at h), rfl⟩ ?_ ?_⟩
    · rintro i σ H4 hi ⟨qs, rs, now, y1, y2, y3, y4, I4, hrl, hbe, rfl⟩
      -- row = []
      refine ⟨by show 0 ≤ sizeLine; decide, fun w nw => ?_⟩
      generalize hE5 : upd H4 w _ = H5
      have w5 := new_at hE5
      have s5 := new_same hE5 nw
      have nwp : w ≠ p := (I4.bag.ne nw).symm
      have nwR : w ≠ R := (ne_some I4.wR nw).symm
      have nwq : w ∉ qs := fun hq => by
        obtain ⟨o, ho⟩ := RowsI.tracked I4.li w hq
        rw [ho] at nw
        cases nw
      have nwH : H w = none := I4.kp.free nw nwp
      have I5 := I4.same s5
      -- range(1 + take(..))
      refine ⟨_, rfl, by show 2 ≤ sizeLine; decide, fun l6 n6 => ⟨_, rfl, ?_⟩⟩
      refine take_menu (zs := [4, 25]) I5.bag (by omega) n6 rfl (by decide) (by decide) (by decide) fun z7 r7 H7 hz7 a7 b7 B7 k7 => ?_
      have I7 := I5.take hp nRp B7 k7
      have hr7 : r7 < 25 := by
        simp only [List.mem_cons, List.not_mem_nil, or_false] at hz7
        omega
      generalize hS : (rs.map fun r => (r.length : Int)).sum = S
      refine ⟨_, _, rfl, rfl, _, rfl, by omega, by omega, for_range (lo := 0) (n := (1 + r7).toNat) (fun j σ H' => ∃ (row : List Int) (now : Int) (y3 y4 : Option V), RowsI H p R g (n + 4 + 60 * i + 2 * j) qs rs H' ∧ H' w = some (.lst (row.map V.int)) ∧ row.length ≤ j ∧ Near g row ∧ (row = [] → Beyond g rs now) ∧ (row ≠ [] → Beyond g rs (row.getD 0 0)) ∧
          (row = [] ∨ now - row.getD (row.length - 1) 0 ≤ g ∨ ¬ (now ≤ 1000000 ∧ (row.length : Int) + S < 200)) ∧ σ = [some (.ref p), some (.int g), some (.ref R), some (.int now), some (.int (0 + (i : Int))), some (.ref w), y3, y4])
        ⟨[], now, _, _, I7.bagLe (by omega), k7 _ _ w5 nwp, Nat.le_refl _, (fun k hk => by simp at hk), fun _ => hbe, fun z => absurd rfl z, .inl rfl, rfl⟩ ?_ ?_⟩
      · rintro j σ H8 hj ⟨row, now, y3, y4, I8, w8, hl8, hN, hb1, hb2, hop, rfl⟩
        have hql := I8.li.len
        -- if now <= 10 ** 6 and len(row) + sum([..]) < 200: row.append(now)
        refine ⟨fun σ H' => ∃ (row : List Int) (y4 : Option V), RowsI H p R g (n + 4 + 60 * i + 2 * j) qs rs H' ∧ H' w = some (.lst (row.map V.int)) ∧ row.length ≤ j + 1 ∧ Near g row ∧ (row = [] → Beyond g rs now) ∧ (row ≠ [] → Beyond g rs (row.getD 0 0)) ∧
          (row = [] ∨ row.getD (row.length - 1) 0 = now ∨ ¬ (now ≤ 1000000 ∧ (row.length : Int) + S < 200)) ∧ σ = [some (.ref p), some (.int g), some (.ref R), some (.int now), some (.int (0 + (i : Int))), some (.ref w), some (.int (0 + (j : Int))), y4], ?_, ?_⟩
        · have skip : ∀ H' (y4 : Option V), RowsI H p R g (n + 4 + 60 * i + 2 * j) qs rs H' → H' w = some (.lst (row.map V.int)) → ¬ (now ≤ 1000000 ∧ (row.length : Int) + S < 200) → ∃ (row : List Int) (y : Option V), RowsI H p R g (n + 4 + 60 * i + 2 * j) qs rs H' ∧ H' w = some (.lst (row.map V.int)) ∧ row.length ≤ j + 1 ∧ Near g row ∧ (row = [] → Beyond g rs now) ∧ (row ≠ [] → Beyond g rs (row.getD 0 0)) ∧
              (row = [] ∨ row.getD (row.length - 1) 0 = now ∨ ¬ (now ≤ 1000000 ∧ (row.length : Int) + S < 200)) ∧ [some (.ref p), some (.int g), some (.ref R), some (.int now), some (.int (0 + (i : Int))), some (.ref w), some (.int (0 + (j : Int))), y4] = [some (.ref p), some (.int g), some (.ref R), some (.int now), some (.int (0 + (i : Int))), some (.ref w), some (.int (0 + (j : Int))), y] :=
            fun H' y4 a1 a2 a3 => ⟨row, y4, a1, a2, by omega, hN, hb1, hb2, .inr (.inr a3), rfl⟩
          refine ⟨_, rfl, _, _, rfl, rfl, pow10, _, _, rfl, rfl, _, rfl, ?_⟩
          have e6 : (10 : Int) ^ (6 : Int).toNat = 1000000 := by decide
          refine ite2 (fun hc => ?_) (fun hc => ?_)
          · have hc' : now ≤ 1000000 := by
              have := of_decide_eq_true hc
              rw [e6] at this
              exact this
            refine ⟨_, rfl, w, _, rfl, .inl (SqL.of w8), _, rfl, R, rfl, ⟨_, SqL.of I8.wR⟩, fun D nD => lc_list (K := K) (a := R) (xs := qs.map V.ref) (fun k H' => Same H8 H' ∧ H' D = some (.lst (((rs.take k).map fun r => (r.length : Int)).map V.int))) ⟨same_upd nD, upd_same⟩
              (fun k H' _ hp => SqL.of (hp.1 _ _ I8.wR)) ?_ ?_⟩
            · rintro k x H9 hx ⟨s9, w9⟩
              rw [List.getElem?_map] at hx
              obtain ⟨qk, hq, rfl⟩ : ∃ qk, qs[k]? = some qk ∧ V.ref qk = x := by
                cases e : qs[k]? with
                | none => rw [e] at hx; cases hx
                | some qk => rw [e] at hx; exact ⟨qk, rfl, Option.some.inj hx⟩
              obtain ⟨rk, hr, hrow⟩ := I8.li.get k qk hq
              have hkl : k < rs.length := (List.getElem?_eq_some_iff.mp hr).1
              refine ⟨rfl, yes_of (iteT ?_)⟩
              refine ⟨_, rfl, qk, _, rfl, .inl (SqL.of (s9 _ _ hrow)), _, w9, by rw [List.length_map, List.length_map, List.length_take]; exact small1000 (by omega), Same.own (q := D) (H1 := H9) s9 (mut_keep rfl) nD, ?_⟩
              rw [upd_same, List.take_add_one, hr, List.map_append, List.map_append]
              show some (HO.lst (_ ++ [V.int ((rk.map V.int).length : Int)])) = some (HO.lst (_ ++ [V.int (rk.length : Int)]))
              rw [List.length_map]
            rintro H9 ⟨s9, w9⟩
            rw [List.length_map, hql, List.take_length] at w9
            refine ⟨D, _, rfl, SqL.of w9, _, _, rfl, rfl, _, _, rfl, rfl, _, rfl, ?_⟩
            rw [hS, List.length_map]
            have w9w := s9 _ _ w8
            refine ite2 (fun hd => ?_) (fun hd => ?_)
            · have hd' : (row.length : Int) + S < 200 := of_decide_eq_true hd
              refine ⟨_, rfl, .inl ⟨rfl, _, SqL.of w9w⟩, _, rfl, w, _, _, rfl, rfl, w9w, by rw [List.length_map]; exact small1000 (by omega), ?_⟩
              generalize hE10 : upd H9 w _ = H10
              have w10 := new_at hE10
              have I10 := (I8.same s9).own nwH nwq nwR nwp (mut_keep hE10)
              have hnear : row = [] ∨ now - row.getD (row.length - 1) 0 ≤ g := by
                rcases hop with h | h | h
                · exact .inl h
                · exact .inr h
                · exact absurd ⟨hc', hd'⟩ h
              refine ⟨row ++ [now], _, I10, by rw [List.map_append]; exact w10, by rw [List.length_append]; exact Nat.succ_le_succ hl8, near_snoc hN hnear, fun z => by simp at z, fun _ => ?_, .inr (.inl (last_snoc row now)), rfl⟩
              by_cases hr0 : row = []
              · subst hr0
                exact hb1 rfl
              · rw [getD_left (List.length_pos_iff.mpr hr0)]
                exact hb2 hr0
            · have hd' : ¬ (row.length : Int) + S < 200 := fun z => hd (decide_eq_true z)
              exact skip H9 _ (I8.same s9) w9w fun z => hd' z.2
          · have hc' : ¬ now ≤ 1000000 := fun z => hc (decide_eq_true (by rw [e6]; exact z))
            exact iteF (skip H8 _ I8 w8 fun z => hc' z.1)
        · rintro σ H9 ⟨row, y4, I9, w9, hl9, hN, hb1, hb2, hop, rfl⟩
          -- now = now + [0, gap, take(..)][take(3)]
          have hmin : 0 ≤ (if 999 < g then 999 else g) ∧ (if 999 < g then 999 else g) ≤ g ∧ (if 999 < g then 999 else g) ≤ 999 := by
            split <;> omega
          refine ⟨_, rfl, _, rfl, _, rfl, _, rfl, _, _, rfl, _, _, rfl, rfl, ?_⟩
          refine take_of (z := (if 999 < g then 999 else g) + 1) I9.bag (by omega) (by omega) (by omega) fun r10 H10 a10 b10 B10 k10 => ?_
          have I10 := I9.take hp nRp B10 k10
          refine ⟨by show 3 ≤ sizeLine; decide, fun l11 n11 => ?_⟩
          generalize hE11 : upd H10 l11 _ = H11
          have w11 := new_at hE11
          have s11 := new_same hE11 n11
          have I11 := I10.same s11
          have n11p := B10.ne n11
          refine ⟨_, rfl, ?_⟩
          refine take_of (z := 3) I11.bag (by decide) (by decide) (by omega) fun r12 H12 a12 b12 B12 k12 => ?_
          have I12 := I11.take hp nRp B12 k12
          have ix : ∃ d : Int, 0 ≤ d ∧ d ≤ g ∧ atI [V.int 0, V.int g, V.int r10] r12 = some (.int d) := by
            obtain ⟨k, rfl⟩ := Int.eq_ofNat_of_zero_le a12
            match k, b12 with
            | 0, _ => exact ⟨_, by decide, hg0, at0⟩
            | 1, _ => exact ⟨_, hg0, Int.le_refl _, at1⟩
            | 2, _ => exact ⟨_, a10, by omega, at2⟩
          obtain ⟨d, d0, d1, ed⟩ := ix
          refine ⟨l11, _, _, _, rfl, rfl, SqL.of (k12 _ _ w11 n11p.symm), ed, _, _, rfl, rfl, ?_⟩
          refine ⟨row, now + d, _, _, I12.bagLe (by omega), k12 _ _ (s11 _ _ (k10 _ _ w9 nwp)) nwp, hl9, hN, fun z r hr => ?_, hb2, ?_, rfl⟩
          · have := hb1 z r hr
            omega
          · rcases hop with h | h | h
            · exact .inl h
            · exact .inr (.inl (by omega))
            · exact .inr (.inr fun z => h ⟨by omega, z.2⟩)
      · rintro σ H8 ⟨row, now, y3, y4, I8, w8, hl8, hN, hb1, hb2, hop, rfl⟩
        have hl25 : row.length ≤ 25 := by omega
        -- if row != []
        refine ⟨_, rfl, by show 0 ≤ sizeLine; decide, fun l9 n9 => ?_⟩
        generalize hE9 : upd H8 l9 _ = H9
        have w9 := new_at hE9
        have s9 := new_same hE9 n9
        have I9 := I8.same s9
        have w9w := s9 _ _ w8
        by_cases hr0 : row = []
        · subst hr0
          refine neD_same (SqL.of w9w) (SqL.of w9) (fun v hv => nomatch hv) ⟨_, rfl, iteF ?_⟩
          exact ⟨qs, rs, now, _, _, _, _, I9.bagLe (by omega), by omega, hb1 rfl, rfl⟩
        · refine neD_diff (SqL.of w9w) (SqL.of w9) (ints_flat' row) (fun v hv => nomatch hv) (by rw [List.length_map]; exact fun z => hr0 (List.eq_nil_of_length_eq_zero z)) ⟨_, rfl, iteT ?_⟩
          obtain ⟨r0, x, rfl⟩ : ∃ r0 x, row = r0 ++ [x] := ⟨row.dropLast, row.getLast hr0, (List.dropLast_concat_getLast hr0).symm⟩
          -- rows.append(row)
          refine ⟨_, rfl, .inl ⟨rfl, _, SqL.of I9.wR⟩, _, rfl, R, _, _, rfl, rfl, I9.wR, by rw [List.length_map, I9.li.len]; exact small1000 (by omega), ?_⟩
          generalize hE10 : upd H9 R _ = H10
          have w10 := new_at hE10
          have k10 := mut_keep hE10
          have w10w := k10 _ _ w9w nwR
          have I10 : RowsI H p R g (n + 4 + 60 * i + 2 * (1 + r7).toNat) (qs ++ [w]) (rs ++ [r0 ++ [x]]) H10 := by
            refine ⟨I9.bag.keep k10 nRp.symm, I9.kp.own k10 nR, fun q hq => ?_, fun hq => ?_, by rw [List.map_append]; exact w10, .snoc (I9.li.keep fun q hq o e => k10 q o e fun z => I9.nR (z ▸ hq)) w10w, goodRows_snoc I9.gd hr0 hN hl25 (hb2 hr0)⟩
            · rcases List.mem_append.mp hq with hq | hq
              · exact I9.fr q hq
              · rw [List.mem_singleton.mp hq]
                exact nwH
            · rcases List.mem_append.mp hq with hq | hq
              · exact I9.nR hq
              · exact nwR (List.mem_singleton.mp hq).symm
          -- now = row[-1] + gap + 1 + take(..)
          have wl : atI ((r0 ++ [x]).map V.int) (-1) = some (.int x) := by
            rw [List.map_append]
            exact atI_last _ _
          refine ⟨_, rfl, _, rfl, w, _, _, _, rfl, rfl, SqL.of w10w, wl, _, rfl, _, _, rfl, rfl, _, _, rfl, rfl, _, rfl, by show 2 ≤ sizeLine; decide, fun l11 n11 => ⟨_, rfl, ?_⟩⟩
          refine take_menu (zs := [1, 99]) I10.bag (by omega) n11 rfl (by decide) (by decide) (by decide) fun z12 r12 H12 _ a12 _ B12 k12 => ?_
          have I12 := I10.take hp nRp B12 k12
          refine ⟨_, _, rfl, rfl, qs ++ [w], rs ++ [r0 ++ [x]], x + g + 1 + r12, _, _, _, _, I12.bagLe (by omega), by rw [List.length_append]; exact Nat.succ_le_succ hrl, fun r hr => ?_, rfl⟩
          rw [List.getLast?_concat] at hr
          cases hr
          rw [last_snoc]
          omega
    · rintro σ H4 ⟨qs, rs, now, y1, y2, y3, y4, I4, hrl, hbe, rfl⟩
      exact ⟨_, rfl, q R H4 qs rs nR I4.fr I4.kp (I4.bag.le (by omega)) I4.wR I4.li I4.gd (by omega)⟩

/-! ### k03: one row's waits; the law -/
def sp_law_row_right (K : PySem.W.Frag) : Sp := fun vs H Q _ => ∃ (l v o : Addr) (f m t b s : Int) (r : List Int), vs = [.ref l, .ref v, .ref o] ∧ SqL K H l (r.map V.int) ∧ SqT K H v [.int f, .int m, .int t, .int b, .int s] ∧ SqL K H o (waitsF f m t b s r) ∧ Five f m t b s ∧ Near s r ∧ r.length ≤ 500 ∧
  ∀ H', Same H H' → Q (.bl true) H'
theorem cut_from {xs : List V} {n : Nat} : cutV xs (some (n : Int)) none = xs.drop n := by
  unfold cutV
  rw [show HT.sIx xs.length 0 (some (n : Int)) = min n xs.length from HT.sIx_nat xs.length 0 n, HT.sIx_none]
  by_cases h : n ≤ xs.length
  · rw [Nat.min_eq_left h, List.take_of_length_le (by rw [List.length_drop]; exact Nat.le_refl _)]
  · rw [Nat.min_eq_right (by omega), Nat.sub_self, List.take_zero, List.drop_of_length_le (by omega)]
theorem cut_to {xs : List V} {n : Nat} : cutV xs none (some (n : Int)) = xs.take n := by
  unfold cutV
  rw [show HT.sIx xs.length xs.length (some (n : Int)) = min n xs.length from HT.sIx_nat xs.length xs.length n, HT.sIx_none]
  show (xs.drop 0).take (min n xs.length - 0) = xs.take n
  rw [List.drop_zero, Nat.sub_zero]
  by_cases h : n ≤ xs.length
  · rw [Nat.min_eq_left h]
  · rw [Nat.min_eq_right (by omega), List.take_length, List.take_of_length_le (by omega)]
theorem Same.tup {K : PySem.W.Frag} {H H' : Hp} {a : Addr} {xs : List V} (e : Same H H') (h : SqT K H a xs) : SqT K H' a xs := by
  rcases h with (h | ⟨o, h⟩) | h
  · exact .inl (.inl (e _ _ h))
  · exact .inl (.inr ⟨o, e _ _ h⟩)
  · exact .inr h
theorem waitV_flat (f m t b : Int) (k : Nat) : flatN (waitV f m t b k) = true := by
  unfold waitV
  split <;> rfl
theorem waitsF_flat (f m t b s : Int) (ts : List Int) : ∀ v ∈ waitsF f m t b s ts, flatN v = true := fun v hv => by
  unfold waitsF at hv
  obtain ⟨i, _, rfl⟩ := List.mem_map.mp hv
  exact waitV_flat _ _ _ _ _
theorem ok_law_row_right (T : Txt K mg) : FnOk P w K mg base CX0 4 (He.fAd K ("_law_row_right", none)) T.d_law_row_right ["_law_one", "_law_five", "_law_told"] (sp_law_row_right K) := by
  refine T.F_law_row_right.ok sc_law_row_right (fun vs H Q E h => ?_) (fun cdv A outer s H vs Q E hr h => ?_)
  · obtain ⟨l, v, o, f, m, t, b, s, r, rfl, _⟩ := h
    rfl
  · obtain ⟨l, v, o, f, m, t, b, s, r, rfl, hL, hV, hO, F, hN, hlen, q⟩ := h
    refine ⟨_, PSs.nox (pss_cons (ps_if (pt_cmpR op_ne (pe_callB (id := "len")  call_len_seq (by rfl) T.n_len (by decide +kernel) (pa_cons (pv 2) pa_nil)) (pe_callB (id := "len")  call_len_seq (by rfl) T.n_len (by decide +kernel) (pa_cons (pv 0) pa_nil)) (nomark _))
      (pss_one (ps_ret pe_bl))
      pss_nil)
      (pss_cons (ps_set (i := 3) sc_law_row_right.nd rfl (Or.inl rfl) pe_int)
      (pss_cons (ps_for PassesOwn.never rfl (pi_enum (by rfl) T.n_enumerate (pa_cons (pv 2) pa_nil)) (pg_tup rfl (pgs_cons (pg_name (i := 4) sc_law_row_right.nd rfl (Or.inl rfl)) (pgs_cons (pg_name (i := 5) sc_law_row_right.nd rfl (Or.inl rfl)) pgs_nil)))
      (pss_cons (ps_if (pt_cmpR op_isN (pv 5) pe_non (nomark _))
      (pss_one (ps_ret (pe_mid (pe_and (pe_cmpR (op_eqD hr.units) (pe_slice sl_list (pv 2) (po_some (pe_op op_add (pv 4) pe_int)) po_none) (pe_call (ok_waits T) (hr.mono (by decide)) (by rfl) T.m_waits T.F_waits.kp T.b_waits .nil pass0 (pa_cons (pe_call (ok_law_rule T) (hr.mono (by decide)) (by rfl) T.m_law_rule T.F_law_rule.kp T.b_law_rule .nil pass0 (pa_cons (pv 1) pa_nil)) (pa_cons (pe_slice sl_list (pv 0) (po_some (pe_op op_add (pv 4) pe_int)) po_none) pa_nil))) (nomark _)) (pe_one (pe_cmpR op_eq (pv 4) (pe_ix ix_tup (pv 1) pe_int (fun _ _ => rfl)) (nomark _)))))))
      pss_nil)
      (pss_cons (ps_if (PW.pt (pw_or (pt_cmpR op_lt (pv 5) (pv 3) (nomark _)) (pw_or (pt_cmpR op_gt (pv 5) (pe_ix ix_tup (pv 1) pe_int (fun _ _ => rfl)) (nomark _)) (pw_or (pt_cmpR op_lt (pv 5) (pe_callB (id := "min")  (call_min2 rfl) (by rfl) T.n_min (by decide +kernel) (pa_cons (pe_ix ix_tup (pv 1) pe_int (fun _ _ => rfl)) (pa_cons (pe_ix ix_tup (pv 1) pe_int (fun _ _ => rfl)) pa_nil))) (nomark _)) (pw_or1 (pt_val (pe_callB (id := "isinstance")  call_isi (by rfl) T.n_isinstance (by decide +kernel) (pa_cons (pv 5) (pa_cons (pe_bltn (v := .ty "bool") (u := .type "bool") (by rfl) T.n_bool (by decide +kernel) rfl) pa_nil)))))))))
      (pss_one (ps_ret pe_bl))
      pss_nil)
      (pss_one (ps_set (i := 3) sc_law_row_right.nd rfl (Or.inl rfl) (pv 5))))))
      (pss_one (ps_ret (pe_cmpR op_le (pe_callB (id := "len")  call_len_seq (by rfl) T.n_len (by decide +kernel) (pa_cons (pv 0) pa_nil)) (pe_ix ix_tup (pv 1) pe_int (fun _ _ => rfl)) (nomark _))))))), ?_⟩
    have f1 := F.f1
    have m1 := F.m1
    have t1 := F.t1
    have b1 := F.b1
    -- if len(told) != len(one)
    refine ⟨_, rfl, o, _, rfl, .inl hO, _, rfl, l, _, rfl, .inl hL, rfl, _, rfl, ?_⟩
    refine iteNS (by rw [waitsF_len, List.length_map]) ?_
    -- for at, wait in enumerate(told)
    refine ⟨_, rfl, o, _, rfl, hO, for_enum2 (xs := waitsF f m t b s r) (fun i σ H' => Same H H' ∧ (i : Int) ≤ b ∧ ∃ (w : Int) (y4 y5 : Option V), (w = 0 ∨ ∃ k, i = k + 1 ∧ w = waitN f m t k) ∧ σ = [some (.ref l), some (.ref v), some (.ref o), some (.int w), y4, y5])
      ⟨Same.refl H, b1, 0, none, none, .inl rfl, rfl⟩ (fun i σ H' _ hp => hp.1.seq hO) ?_ ?_⟩
    · rintro i x σ H1 H2 hx ⟨s1, hib, w, y4, y5, hw, rfl⟩ s2
      obtain ⟨hi, rfl⟩ := waitsF_get hx
      have sA := s1.trans s2
      have hV2 := Same.tup sA hV
      have hk := kOf_near (b := b) hN i hi hib
      rw [hk]
      refine ⟨_, rfl, rfl, _, rfl, ?_⟩
      by_cases hb : (i : Int) = b
      · -- it is given up
        have e1 : waitV f m t b i = .non := by
          unfold waitV
          rw [if_pos hb]
        refine iteYd e1 ?_
        refine ⟨fun v H' => Same H H' ∧ v = .bl true, ?_, ?_⟩
        · refine ⟨_, rfl, _, rfl, _, _, rfl, rfl, _, rfl, o, _, rfl, sA.seq hO, fun p3 n3 => ?_⟩
          generalize hE3 : upd H2 p3 _ = H3
          have w3 : H3 p3 = some (.lst (waitsF f m t b s (r.drop (i + 1)))) := by
            rw [← waitsF_drop hN hi hb, ← cut_from]
            exact new_at hE3
          have s3 := new_same hE3 n3
          have sB := sA.trans s3
          refine ⟨_, rfl, v, f, m, t, b, s, rfl, Same.tup sB hV, fun a4 H4 n4 s4 R4 => ?_⟩
          refine ⟨_, rfl, _, rfl, _, _, rfl, rfl, _, rfl, l, _, rfl, (sB.trans s4).seq hL, fun p5 n5 => ?_⟩
          generalize hE5 : upd H4 p5 _ = H5
          have w5 : H5 p5 = some (.lst ((r.drop (i + 1)).map V.int)) := by
            rw [List.map_drop, ← cut_from]
            exact new_at hE5
          have s5 := new_same hE5 n5
          refine ⟨a4, p5, f, m, t, b, s, r.drop (i + 1), rfl, R4.same s5, F, SqL.of w5, by rw [List.length_drop]; omega, fun p6 H6 n6 s6 w6 => ?_⟩
          have s36 : Same H3 H6 := (s4.trans s5).trans s6
          refine eqD_same (SqL.of (s36 _ _ w3)) (SqL.of w6) (waitsF_flat _ _ _ _ _ _) ⟨_, rfl, iteT ?_⟩
          have sC := sB.trans s36
          refine ⟨_, rfl, _, rfl, v, _, _, _, rfl, rfl, Same.tup sC hV, at3, rfl, sC, ?_⟩
          rw [hb, decide_eq_true rfl]
        · rintro v H' ⟨sF, rfl⟩
          exact q H' sF
      · have e1 : waitV f m t b i = .int (waitN f m t i) := waitV_N hb
        rw [e1]
        refine iteNd (by intro z; cases z) ?_
        have g1 : ¬ waitN f m t i < w := by
          rcases hw with rfl | ⟨k, rfl, rfl⟩
          · have := waitN_pos f1 m1 t1 i
            omega
          · have := waitN_mono (t := t) f1 m1 k
            omega
        have g2 : ¬ t < waitN f m t i := by
          have := waitN_top f m t i
          omega
        have g3 : ¬ waitN f m t i < (if t < f then t else f) := by
          have := waitN_low (t := t) f1 m1 i
          omega
        refine ⟨_, rfl, _, rfl, _, _, rfl, rfl, _, rfl, iteNd g1 ?_⟩
        refine ⟨_, rfl, _, rfl, v, _, _, _, rfl, rfl, hV2, at2, _, _, rfl, rfl, _, rfl, iteNd g2 ?_⟩
        refine ⟨_, rfl, _, rfl, v, _, _, _, rfl, rfl, hV2, at0, _, rfl, v, _, _, _, rfl, rfl, hV2, at2, _, _, rfl, _, _, rfl, rfl, _, rfl, iteNd g3 ?_⟩
        refine ⟨_, rfl, _, _, _, _, false, rfl, .ty "bool", .base (.int _), kit_ty (by decide +kernel), _, rfl, iteF ?_⟩
        exact ⟨_, rfl, sA, by omega, waitN f m t i, _, _, .inr ⟨i, rfl, rfl⟩, rfl⟩
    · rintro σ H1 ⟨s1, hib, w, y4, y5, hw, rfl⟩
      rw [waitsF_len] at hib
      refine ⟨_, rfl, l, _, rfl, .inl (s1.seq hL), _, rfl, v, _, _, _, rfl, rfl, Same.tup s1 hV, at3, _, _, rfl, rfl, ?_⟩
      have e : decide (((r.map V.int).length : Int) ≤ b) = true := decide_eq_true (by rw [List.length_map]; exact hib)
      show Q (.bl (decide (((r.map V.int).length : Int) ≤ b))) H1
      rw [e]
      exact q H1 s1

/-! ### k03: the law -/
theorem concat_snoc (rs : List (List Int)) (r : List Int) : (rs ++ [r]).flatten = rs.flatten ++ r := by
  rw [List.flatten_append]
  simp
theorem beyond_concat {g : Int} {rs : List (List Int)} {r : List Int} (hne : ∀ x ∈ rs, x ≠ []) (hb : Beyond g rs (r.getD 0 0)) : rs.flatten = [] ∨ r = [] ∨ r.getD 0 0 - rs.flatten.getD (rs.flatten.length - 1) 0 > g := by
  by_cases h : rs = []
  · subst h
    exact .inl rfl
  · obtain ⟨r0, x, rfl⟩ : ∃ r0 x, rs = r0 ++ [x] := ⟨rs.dropLast, rs.getLast h, (List.dropLast_concat_getLast h).symm⟩
    have hx := hb x List.getLast?_concat
    have hx0 : 0 < x.length := List.length_pos_iff.mpr (hne x (List.mem_append_right _ (List.mem_singleton.mpr rfl)))
    rw [concat_snoc, List.length_append, show r0.flatten.length + x.length - 1 = r0.flatten.length + (x.length - 1) by omega, getD_right]
    exact .inr (.inr hx)

theorem flat_len : ∀ rs : List (List Int), (∀ x ∈ rs, x.length ≤ 25) → rs.flatten.length ≤ 25 * rs.length
  | [], _ => Nat.zero_le _
  | r :: rs, h => by
    have ih := flat_len rs fun x hx => h x (List.mem_cons_of_mem _ hx)
    have h1 := h r (List.mem_cons_self ..)
    rw [List.flatten_cons, List.length_append, List.length_cons]
    omega
def sp_law (K : PySem.W.Frag) : Sp := fun vs H Q _ => ∃ (a : Addr) (ns : List Int), vs = [.ref a] ∧ SqL K H a (ns.map V.int) ∧ ns.length ≤ 63 ∧ ∀ H', Q (.bl true) H'
theorem ok_law (T : Txt K mg) : FnOk P w K mg base CX0 5 (He.fAd K ("law", none)) T.d_law ["_law_script"] (sp_law K) := by
  refine T.F_law.ok sc_law (fun vs H Q E h => ?_) (fun cdv A outer s H vs Q E hr h => ?_)
  · obtain ⟨a, ns, rfl, _⟩ := h
    rfl
  · obtain ⟨a, ns, rfl, hS, hlen, q⟩ := h
    refine ⟨_, PSs.nox (pss_cons (ps_for PassesOwn.never rfl (pi_range1 (by rfl) T.n_range (pa_cons (pe_callB (id := "max")  (call_max2 rfl) (by rfl) T.n_max (by decide +kernel) (pa_cons pe_int (pa_cons (pe_callB (id := "min")  (call_min2 rfl) (by rfl) T.n_min (by decide +kernel) (pa_cons pe_int (pa_cons (pe_callB (id := "len")  call_len_seq (by rfl) T.n_len (by decide +kernel) (pa_cons (pv 0) pa_nil)) pa_nil))) pa_nil))) pa_nil)) (pg_name (i := 1) sc_law.nd rfl (Or.inl rfl))
      (pss_cons (ps_set (i := 2) sc_law.nd rfl (Or.inl rfl) (pe_call (ok_law_bag T) (hr.mono (by decide)) (by rfl) T.m_law_bag T.F_law_bag.kp T.b_law_bag .nil pass0 (pa_cons (pv 0) (pa_cons (pv 1) pa_nil))))
      (pss_cons (ps_set (i := 3) sc_law.nd rfl (Or.inl rfl) (pe_call (ok_law_rule_parts T) (hr.mono (by decide)) (by rfl) T.m_law_rule_parts T.F_law_rule_parts.kp T.b_law_rule_parts .nil pass0 (pa_cons (pv 2) pa_nil)))
      (pss_cons (ps_set (i := 4) sc_law.nd rfl (Or.inl rfl) (pe_call (ok_law_rule T) (hr.mono (by decide)) (by rfl) T.m_law_rule T.F_law_rule.kp T.b_law_rule .nil pass0 (pa_cons (pv 3) pa_nil)))
      (pss_cons (ps_set (i := 5) sc_law.nd rfl (Or.inl rfl) (pe_call (ok_law_rows T) (hr.mono (by decide)) (by rfl) T.m_law_rows T.F_law_rows.kp T.b_law_rows .nil pass0 (pa_cons (pv 2) (pa_cons (pe_ix ix_tup (pv 3) pe_int (fun _ _ => rfl)) pa_nil))))
      (pss_cons (ps_par (by rfl) sc_law.nd (i := 6) (j := 7) rfl rfl (by decide) rfl rfl (pa_cons (pe_lst pa_nil) (pa_cons (pe_lst pa_nil) pa_nil)) (by rfl))
      (pss_cons (ps_for PassesOwn.never rfl (pi_list (pv 5)) (pg_name (i := 8) sc_law.nd rfl (Or.inl rfl))
      (pss_cons (ps_set (i := 9) sc_law.nd rfl (Or.inl rfl) (pe_call (ok_waits T) (hr.mono (by decide)) (by rfl) T.m_waits T.F_waits.kp T.b_waits .nil pass0 (pa_cons (pv 4) (pa_cons (pv 8) pa_nil))))
      (pss_cons (ps_if (pt_not (pt_val (pe_call (ok_law_row_right T) (hr.mono (by decide)) (by rfl) T.m_law_row_right T.F_law_row_right.kp T.b_law_row_right .nil pass0 (pa_cons (pv 8) (pa_cons (pv 3) (pa_cons (pv 9) pa_nil))))))
      (pss_one (ps_ret pe_bl))
      pss_nil)
      (pss_cons (ps_set (i := 6) sc_law.nd rfl (Or.inl rfl) (pe_op op_cat (pv 6) (pv 8)))
      (pss_cons (ps_set (i := 7) sc_law.nd rfl (Or.inl rfl) (pe_op op_cat (pv 7) (pv 9)))
      (pss_one (ps_if (pt_cmpR (op_neD hr.units) (pe_call (ok_waits T) (hr.mono (by decide)) (by rfl) T.m_waits T.F_waits.kp T.b_waits .nil pass0 (pa_cons (pv 4) (pa_cons (pe_callTy (T := "list")  call_list_of (by rfl) T.n_list (by decide +kernel) (pa_cons (pv 6) pa_nil)) pa_nil))) (pv 7) (nomark _))
      (pss_one (ps_ret pe_bl))
      pss_nil)))))))
      (pss_cons (ps_set (i := 10) sc_law.nd rfl (Or.inr rfl) (pe_op op_sub (pe_op op_powL pe_int pe_int) (pe_callBK (id := "max") (cr_maxD rfl hr.units) (by rfl) T.n_max (by decide +kernel) (pa_cons (pv 6) pa_nil) (pk_cons pe_int pk_nil))))
      (pss_cons (ps_set (i := 11) sc_law.nd rfl (Or.inl rfl) (pe_call (ok_law_take T) (hr.mono (by decide)) (by rfl) T.m_law_take T.F_law_take.kp T.b_law_take .nil pass0 (pa_cons (pv 2) (pa_cons (pe_op op_add (pe_callB (id := "len")  call_len_seq (by rfl) T.n_len (by decide +kernel) (pa_cons (pv 6) pa_nil)) pe_int) pa_nil))))
      (pss_one (ps_if (PW.pt (pw_or (pt_cmpR (op_neD hr.units) (pe_call (ok_waits T) (hr.mono (by decide)) (by rfl) T.m_waits T.F_waits.kp T.b_waits .nil pass0 (pa_cons (pv 4) (pa_cons (pe_slice sl_list (pv 6) po_none (po_some (pv 11))) pa_nil))) (pe_slice sl_list (pv 7) po_none (po_some (pv 11))) (nomark _)) (pw_or1 (pt_cmpR (op_neD hr.units) (pe_call (ok_waits T) (hr.mono (by decide)) (by rfl) T.m_waits T.F_waits.kp T.b_waits .nil pass0 (pa_cons (pv 4) (pa_cons (pe_lc (own := [("_law_one", 12)]) (by rfl) sc_law.nd (pi_list (pv 6)) (blkOk_by (own := [("_law_one", 12)]) (N := N_law) (sc := defScope s_law) (by decide +kernel)) (fun _ _ _ _ _ => (pg_name (i := 12) sc_law.nd rfl (Or.inl rfl))) (fun _ _ _ _ _ => pts_nil) (fun _ _ _ _ _ => (pe_op op_add (pv 12) (pv 10)))) pa_nil))) (pv 7) (nomark _)))))
      (pss_one (ps_ret pe_bl))
      pss_nil)))))))))))
      (pss_one (ps_ret pe_bl))), ?_⟩
    refine ⟨_, rfl, a, _, rfl, .inl hS, _, _, rfl, _, _, rfl, _, rfl, ?_, ?_, for_range (lo := 0) (fun i σ H' => Same H H' ∧ ∃ y1 y2 y3 y4 y5 y6 y7 y8 y9 y10 y11 y12, σ = [some (.ref a), y1, y2, y3, y4, y5, y6, y7, y8, y9, y10, y11, y12]) ⟨Same.refl H, _, _, _, _, _, _, _, _, _, _, _, _, rfl⟩ ?_ ?_⟩
    · split <;> split <;> omega
    · split <;> split <;> omega
    · rintro i σ H1 hi ⟨s1, y1, y2, y3, y4, y5, y6, y7, y8, y9, y10, y11, y12, rfl⟩
      have hi9 : i < 8 := by
        rw [List.length_map] at hi
        revert hi
        split <;> split <;> omega
      have hS1 := s1.seq hS
      -- bag, five, made
      refine ⟨_, rfl, _, rfl, a, ns, i, by rw [Int.zero_add]; rfl, hS1, by omega, fun p H2 np s2 B2 => ?_⟩
      refine ⟨_, rfl, p, 0, rfl, B2, by omega, fun f m t b s v H3 F nv wv B3 k3 => ?_⟩
      have npv : v ≠ p := (B2.ne nv).symm
      refine ⟨_, rfl, v, f, m, t, b, s, rfl, SqT.of wv, fun r H4 nr s4 R4 => ?_⟩
      have B4 := B3.same s4
      have nrp : r ≠ p := (B3.ne nr).symm
      -- rows
      refine ⟨_, rfl, _, rfl, v, _, _, _, rfl, rfl, SqT.of (s4 _ _ wv), at4, p, s, 10, rfl, B4, by omega, F.s1, F.s2, fun R H5 qs rs nR fq k5 B5 wR hA hG hrl => ?_⟩
      have R5 := R4.keep k5 nrp
      have v5 := k5 _ _ (s4 _ _ wv) npv
      -- every, due = [], []
      refine ⟨by show 0 ≤ sizeLine; decide, fun e0 n6 => ?_⟩
      generalize hE6 : upd H5 e0 _ = H6
      have w6 := new_at hE6
      have s6 := new_same hE6 n6
      refine ⟨by show 0 ≤ sizeLine; decide, fun d0 n7 => ?_⟩
      generalize hE7 : upd H6 d0 _ = H7
      have w7 := new_at hE7
      have s7 := new_same hE7 n7
      have s57 := s6.trans s7
      refine ⟨_, _, rfl, ?_⟩
      have hql := hA.len
      have ne_all : ∀ x ∈ rs, x ≠ [] := fun x hx => by
        obtain ⟨j, hj⟩ := List.mem_iff_getElem?.mp hx
        exact (hG j x hj).1
      have le_all : ∀ x ∈ rs, x.length ≤ 25 := fun x hx => by
        obtain ⟨j, hj⟩ := List.mem_iff_getElem?.mp hx
        exact (hG j x hj).2.2.1
      have fl : ∀ j, (rs.take j).flatten.length ≤ 150 := fun j => by
        have h1 := flat_len (rs.take j) fun x hx => le_all x (List.mem_of_mem_take hx)
        rw [List.length_take] at h1
        omega
      -- for row in rows
      refine ⟨_, rfl, R, rfl, ⟨_, SqL.of (s57 _ _ wR)⟩, for_list (K := K) (a := R) (xs := qs.map V.ref) (fun j σ H' => Same H5 H' ∧ ∃ (e d : Addr) (y8 y9 y10 y11 y12 : Option V), H5 e = none ∧ H5 d = none ∧ e ≠ d ∧ H' e = some (.lst ((rs.take j).flatten.map V.int)) ∧ H' d = some (.lst (waitsF f m t b s (rs.take j).flatten)) ∧
          σ = [some (.ref a), some (.int (0 + (i : Int))), some (.ref p), some (.ref v), some (.ref r), some (.ref R), some (.ref e), some (.ref d), y8, y9, y10, y11, y12])
        ⟨s57, e0, d0, _, _, _, _, _, n6, s6.free n7, ne_some w6 n7, s7 _ _ w6, w7, rfl⟩ (fun j σ H' _ hp => SqL.of (hp.1 _ _ wR)) ?_ ?_⟩
      · rintro j x σ H8 hx ⟨s8, e, d, y8, y9, y10, y11, y12, ne, nd, ned, we, wd, rfl⟩
        rw [List.getElem?_map] at hx
        obtain ⟨qj, hq, rfl⟩ : ∃ qj, qs[j]? = some qj ∧ V.ref qj = x := by
          cases e : qs[j]? with
          | none => rw [e] at hx; cases hx
          | some qj => rw [e] at hx; exact ⟨qj, rfl, Option.some.inj hx⟩
        obtain ⟨row, hr, hrow⟩ := hA.get j qj hq
        obtain ⟨g1, g2, g3, g4⟩ := hG j row hr
        have hrow8 := s8 _ _ hrow
        -- own = waits(made, row)
        refine ⟨_, rfl, _, rfl, r, qj, f, m, t, b, s, row, rfl, R5.same s8, F, SqL.of hrow8, by omega, fun o H9 no s9 wo => ?_⟩
        have s59 := s8.trans s9
        -- if not row_right(row, five, own)
        refine ⟨_, rfl, _, rfl, _, rfl, qj, v, o, f, m, t, b, s, row, rfl, SqL.of (s9 _ _ hrow8), SqT.of (s59 _ _ v5), SqL.of wo, F, g2, by omega, fun H10 s10 => ⟨_, rfl, iteF ?_⟩⟩
        have s510 := s59.trans s10
        have we10 := s10 _ _ (s9 _ _ we)
        have wd10 := s10 _ _ (s9 _ _ wd)
        -- every = every + row
        refine ⟨_, rfl, _, rfl, e, qj, _, _, rfl, rfl, we10, s10 _ _ (s9 _ _ hrow8), by rw [List.length_map, List.length_map]; exact Nat.le_of_lt (small1000 (by have := fl j; omega)), fun e1 n11 => ?_⟩
        generalize hE11 : upd H10 e1 _ = H11
        have w11 := new_at hE11
        have s11 := new_same hE11 n11
        -- due = due + own
        refine ⟨_, rfl, _, rfl, d, o, _, _, rfl, rfl, s11 _ _ wd10, s11 _ _ (s10 _ _ wo), by rw [waitsF_len, waitsF_len]; exact Nat.le_of_lt (small1000 (by have := fl j; omega)), fun d1 n12 => ?_⟩
        generalize hE12 : upd H11 d1 _ = H12
        have w12 := new_at hE12
        have s12 := new_same hE12 n12
        have we12 := s12 _ _ w11
        have etake : (rs.take (j + 1)).flatten = (rs.take j).flatten ++ row := by
          rw [List.take_add_one, hr]
          exact concat_snoc _ _
        rw [← List.map_append, ← etake] at we12
        have esum : waitsF f m t b s (rs.take (j + 1)).flatten = waitsF f m t b s (rs.take j).flatten ++ waitsF f m t b s row := by
          rw [etake]
          exact waitsF_append (beyond_concat (fun x hx => ne_all x (List.mem_of_mem_take hx)) g4)
        rw [← esum] at w12
        have s512 := (s510.trans s11).trans s12
        -- if waits(made, list(every)) != due
        refine ⟨_, rfl, _, rfl, e1, _, rfl, .inl (SqL.of we12), fun l13 n13 => ?_⟩
        generalize hE13 : upd H12 l13 _ = H13
        have w13 := new_at hE13
        have s13 := new_same hE13 n13
        refine ⟨r, l13, f, m, t, b, s, _, rfl, (R5.same s512).same s13, F, SqL.of w13, by have := fl (j + 1); omega, fun o2 H14 n14 s14 w14 => ⟨_, rfl, ?_⟩⟩
        refine neD_same (SqL.of w14) (SqL.of (s14 _ _ (s13 _ _ w12))) (waitsF_flat _ _ _ _ _ _) ⟨_, rfl, iteF ?_⟩
        have s1314 := s13.trans s14
        exact ⟨s512.trans s1314, e1, d1, _, _, _, _, _, s510.free n11, (s510.trans s11).free n12, ne_some w11 n12, s1314 _ _ we12, s1314 _ _ w12, rfl⟩
      · rintro σ H8 ⟨s8, e, d, y8, y9, y10, y11, y12, ne, nd, ned, we, wd, rfl⟩
        have eall : rs.take (qs.map V.ref).length = rs := by
          rw [List.length_map, hql, List.take_length]
        have fl0 := fl (qs.map V.ref).length
        rw [eall] at we wd fl0
        -- far = 10 ** 6 - max(every, default=0)
        refine ⟨_, _, rfl, rfl, pow10, _, rfl, e, _, 0, rfl, rfl, SqL.of we, fun mx => ⟨_, _, rfl, rfl, ?_⟩⟩
        -- some = take(bag, len(every) + 1)
        refine ⟨_, rfl, _, rfl, e, _, rfl, .inl (SqL.of we), _, _, rfl, rfl, ?_⟩
        have npe := B5.ne ne
        have npd := B5.ne nd
        refine take_of (z := ((rs.flatten.map V.int).length : Int) + 1) (B5.same s8) (by omega) (by rw [List.length_map]; omega) (by omega) fun sm H9 a9 b9 B9 k9 => ?_
        obtain ⟨sN, rfl⟩ := Int.eq_ofNat_of_zero_le a9
        have we9 := k9 _ _ we npe.symm
        have wd9 := k9 _ _ wd npd.symm
        have R9 := (R5.same s8).keep k9 nrp
        -- if waits(made, every[:some]) != due[:some]
        refine ⟨_, rfl, _, rfl, _, rfl, _, rfl, e, _, rfl, SqL.of we9, fun p10 n10 => ?_⟩
        generalize hE10 : upd H9 p10 _ = H10
        have w10 : H10 p10 = some (.lst ((rs.flatten.take sN).map V.int)) := by
          rw [List.map_take, ← cut_to]
          exact new_at hE10
        have s10 := new_same hE10 n10
        refine ⟨r, p10, f, m, t, b, s, _, rfl, R9.same s10, F, SqL.of w10, by rw [List.length_take]; omega, fun o11 H11 n11 s11 w11 => ?_⟩
        rw [waitsF_take] at w11
        refine ⟨_, rfl, _, rfl, _, rfl, d, _, rfl, SqL.of (s11 _ _ (s10 _ _ wd9)), fun p12 n12 => ?_⟩
        generalize hE12 : upd H11 p12 _ = H12
        have w12 : H12 p12 = some (.lst ((waitsF f m t b s rs.flatten).take sN)) := by
          rw [← cut_to]
          exact new_at hE12
        have s12 := new_same hE12 n12
        refine neD_same (SqL.of (s12 _ _ w11)) (SqL.of w12) (fun v hv => waitsF_flat _ _ _ _ _ _ v (List.mem_of_mem_take hv)) ⟨_, rfl, iteF ?_⟩
        have s912 := (s10.trans s11).trans s12
        -- or waits(made, [one + far for one in every]) != due
        have we12 := s912 _ _ we9
        refine ⟨_, rfl, _, rfl, e, rfl, ⟨_, SqL.of we12⟩, fun D nD => lc_list (K := K) (a := e) (xs := rs.flatten.map V.int) (fun k H' => Same H12 H' ∧ H' D = some (.lst (((rs.flatten.take k).map (· + (10 ^ (6 : Int).toNat - mx))).map V.int))) ⟨same_upd nD, upd_same⟩
          (fun k H' _ hp => SqL.of (hp.1 _ _ we12)) ?_ ?_⟩
        · rintro k x H13 hx ⟨s13, w13⟩
          obtain ⟨n, hn, rfl⟩ : ∃ n, rs.flatten[k]? = some n ∧ V.int n = x := by
            rw [List.getElem?_map] at hx
            cases e : rs.flatten[k]? with
            | none => rw [e] at hx; cases hx
            | some n => rw [e] at hx; exact ⟨n, rfl, Option.some.inj hx⟩
          refine ⟨rfl, yes_of (iteT ?_)⟩
          refine ⟨_, rfl, _, rfl, _, _, rfl, rfl, _, w13, by rw [List.length_map, List.length_map, List.length_take]; exact small1000 (by omega), Same.own (q := D) (H1 := H13) s13 (mut_keep rfl) nD, ?_⟩
          rw [upd_same, List.take_add_one, hn, List.map_append, List.map_append]
          rfl
        rintro H13 ⟨s13, w13⟩
        rw [List.length_map, List.take_length] at w13
        refine ⟨r, D, f, m, t, b, s, _, rfl, (R9.same s912).same s13, F, SqL.of w13, by rw [List.length_map]; omega, fun o14 H14 n14 s14 w14 => ⟨_, rfl, ?_⟩⟩
        rw [waitsF_shift] at w14
        have s914 := (s912.trans s13).trans s14
        refine neD_same (SqL.of w14) (SqL.of (s914 _ _ wd9)) (waitsF_flat _ _ _ _ _ _) ⟨_, rfl, iteF ?_⟩
        have q5 : Same H1 H5 := Same.own ((Same.own s2 k3 np).trans s4) k5 np
        have q9 : Same H1 H9 := Same.own (q5.trans s8) k9 np
        exact ⟨s1.trans (q9.trans s914), _, _, _, _, _, _, _, _, _, _, _, _, rfl⟩
    · rintro σ H1 ⟨s1, _⟩
      exact q H1

end
theorem kb_Rule_init_1_first_times_top_burst_span_mk {K : PySem.W.Frag} {f : Addr} {fd : FuncData} (F : FunD K "__init__" "Rule.__init__" (defArgs s_Rule_init) (defBody s_Rule_init) (defScope s_Rule_init) [] [("first", V.int 1), ("times", V.int 2), ("top", V.int 64), ("burst", V.int 5), ("span", V.int 100)] f fd) : ∃ gg, KBn K fd ["self", "first", "times", "top", "burst", "span"] 1 ["first", "times", "top", "burst", "span"] gg (fun us ws => us ++ (ws.drop 0).take 1 ++ (ws.drop 1).take 1 ++ (ws.drop 2).take 1 ++ (ws.drop 3).take 1 ++ (ws.drop 4).take 1) := by
  obtain ⟨mv, h⟩ := F.kbinds0 (ps := ["self", "first", "times", "top", "burst", "span"]) 1 ["first", "times", "top", "burst", "span"] [] (fun us mv ws => us ++ (ws.drop 0).take 1 ++ (ws.drop 1).take 1 ++ (ws.drop 2).take 1 ++ (ws.drop 3).take 1 ++ (ws.drop 4).take 1) (by intro z; cases z) (by simp) (fun r1 r2 r3 => (((((r1.append (vals_take ((r3).drop 0) 1)).append (vals_take ((r3).drop 1) 1)).append (vals_take ((r3).drop 2) 1)).append (vals_take ((r3).drop 3) 1)).append (vals_take ((r3).drop 4) 1))) (fun D doc pm an cdv ct us mv ws h1 h2 h3 => match us, mv, ws, h1, h2, h3 with | [_], [], [_, _, _, _, _], _, _, _ => rfl)
  exact ⟨_, h⟩
def dd_Rule_init : He.DefD := ⟨("Rule", some "__init__"), "__init__", "Rule.__init__", defArgs s_Rule_init, defBody s_Rule_init, defScope s_Rule_init, [], [("first", .int 1), ("times", .int 2), ("top", .int 64), ("burst", .int 5), ("span", .int 100)]⟩
def dd_Rule_eq : He.DefD := ⟨("Rule", some "__eq__"), "__eq__", "Rule.__eq__", defArgs s_Rule_eq, defBody s_Rule_eq, defScope s_Rule_eq, [], []⟩
def dd_Rule_str : He.DefD := ⟨("Rule", some "__str__"), "__str__", "Rule.__str__", defArgs s_Rule_str, defBody s_Rule_str, defScope s_Rule_str, [], []⟩
def dd_Rule_repr : He.DefD := ⟨("Rule", some "__repr__"), "__repr__", "Rule.__repr__", defArgs s_Rule_repr, defBody s_Rule_repr, defScope s_Rule_repr, [], []⟩
def dd_wait_behind : He.DefD := ⟨("wait_behind", none), "wait_behind", "wait_behind", defArgs s_wait_behind, defBody s_wait_behind, defScope s_wait_behind, [], []⟩
def dd_waits : He.DefD := ⟨("waits", none), "waits", "waits", defArgs s_waits, defBody s_waits, defScope s_waits, [], []⟩
def dd_law_bag : He.DefD := ⟨("_law_bag", none), "_law_bag", "_law_bag", defArgs s_law_bag, defBody s_law_bag, defScope s_law_bag, [], []⟩
def dd_law_take : He.DefD := ⟨("_law_take", none), "_law_take", "_law_take", defArgs s_law_take, defBody s_law_take, defScope s_law_take, [], []⟩
def dd_law_rule_parts : He.DefD := ⟨("_law_rule_parts", none), "_law_rule_parts", "_law_rule_parts", defArgs s_law_rule_parts, defBody s_law_rule_parts, defScope s_law_rule_parts, [], []⟩
def dd_law_rule : He.DefD := ⟨("_law_rule", none), "_law_rule", "_law_rule", defArgs s_law_rule, defBody s_law_rule, defScope s_law_rule, [], []⟩
def dd_law_rows : He.DefD := ⟨("_law_rows", none), "_law_rows", "_law_rows", defArgs s_law_rows, defBody s_law_rows, defScope s_law_rows, [], []⟩
def dd_law_row_right : He.DefD := ⟨("_law_row_right", none), "_law_row_right", "_law_row_right", defArgs s_law_row_right, defBody s_law_row_right, defScope s_law_row_right, [], []⟩
def dd_law : He.DefD := ⟨("law", none), "law", "law", defArgs s_law, defBody s_law, defScope s_law, [], []⟩
def fn : List He.DefD := [dd_Rule_init, dd_Rule_eq, dd_Rule_str, dd_Rule_repr, dd_wait_behind, dd_waits, dd_law_bag, dd_law_take, dd_law_rule_parts, dd_law_rule, dd_law_rows, dd_law_row_right, dd_law]
def fa : List He.Fa := [.meth "Rule" "__eq__", .meth "Rule" "__str__", .meth "Rule" "__repr__", .glo "wait_behind", .glo "waits", .glo "_law_bag", .glo "_law_take", .glo "_law_rule_parts", .glo "_law_rule", .glo "_law_rows", .glo "_law_row_right", .glo "law", .glo "Rule", .cls "Rule", .mkr "Rule", .noat "Rule" "first", .noat "Rule" "times", .noat "Rule" "top", .noat "Rule" "burst", .noat "Rule" "span", .free "isinstance", .free "range", .free "min", .free "enumerate", .free "abs", .free "len", .free "int", .free "tuple", .free "sum", .free "bool", .free "max", .free "list"]
abbrev R : PySem.W.OpenRow := PySem.W.OpenLaw.row PySem.Challenge.rw_unitwants_k03_whole_rows_of_falls
abbrev hk : PySem.W.Hook := He.hookD 6 fa fn
def ob (s : PySem.W.SharedT) : He.AlD := He.obsDG 6 fa fn (HandSHeadRun.getT s)
theorem ob_eq (s : PySem.W.SharedT) : ob s = hk.obs s.abs := He.obsDG_eq (HandSHeadRun.getT_eq s)
set_option maxHeartbeats 0 in
theorem run (w : World) : HandSHeadRun.RunEq R (PySem.W.view R.prog [11]) hk ob 4000 ["Rule", "wait_behind", "waits", "_law_bag", "_law_take", "_law_rule_parts", "_law_rule", "_law_rows", "_law_row_right"] w := by
  intro os
  kernel_rfl
theorem facts {P : Program} {w : World} {K : PySem.W.Frag} {h : Heap} {mg : Str → Option Value} {f : Addr} (X : K.In h) (G : h.Ns mainGlobals mg) (hfa : mg ("law" : Str) = some (.ref f)) (c : He.SaysD fa fn K) :
    ∃ fd : FuncData, (∀ (s : Shared) (v : Value), BindsTo s fd ⟨[v], []⟩ [("_law_script", v)]) ∧ ∀ base : Heap, K.In base → base.Ns mainGlobals mg → FnOk P w K mg base CX0 5 f fd ["_law_script"] (sp_law K) := by
  obtain ⟨d0, F0⟩ := c.def_ 0 (d := dd_Rule_init) rfl
  obtain ⟨d1, F1⟩ := c.def_ 1 (d := dd_Rule_eq) rfl
  obtain ⟨d2, F2⟩ := c.def_ 2 (d := dd_Rule_str) rfl
  obtain ⟨d3, F3⟩ := c.def_ 3 (d := dd_Rule_repr) rfl
  obtain ⟨d4, F4⟩ := c.def_ 4 (d := dd_wait_behind) rfl
  obtain ⟨d5, F5⟩ := c.def_ 5 (d := dd_waits) rfl
  obtain ⟨d6, F6⟩ := c.def_ 6 (d := dd_law_bag) rfl
  obtain ⟨d7, F7⟩ := c.def_ 7 (d := dd_law_take) rfl
  obtain ⟨d8, F8⟩ := c.def_ 8 (d := dd_law_rule_parts) rfl
  obtain ⟨d9, F9⟩ := c.def_ 9 (d := dd_law_rule) rfl
  obtain ⟨d10, F10⟩ := c.def_ 10 (d := dd_law_rows) rfl
  obtain ⟨d11, F11⟩ := c.def_ 11 (d := dd_law_row_right) rfl
  obtain ⟨d12, F12⟩ := c.def_ 12 (d := dd_law) rfl
  let T : Txt K mg := {
    d_Rule_init := d0
    F_Rule_init := F0
    d_Rule_eq := d1
    F_Rule_eq := F1
    b_Rule_eq := FunD.bindsN (ps := ["self", "other"]) F1 fun _ _ _ _ _ _ us hl => match us, hl with | [_, _], _ => rfl
    d_Rule_str := d2
    F_Rule_str := F2
    b_Rule_str := FunD.bindsN (ps := ["self"]) F2 fun _ _ _ _ _ _ us hl => match us, hl with | [_], _ => rfl
    d_Rule_repr := d3
    F_Rule_repr := F3
    b_Rule_repr := FunD.bindsN (ps := ["self"]) F3 fun _ _ _ _ _ _ us hl => match us, hl with | [_], _ => rfl
    d_wait_behind := d4
    F_wait_behind := F4
    b_wait_behind := FunD.bindsN (ps := ["rule", "ahead"]) F4 fun _ _ _ _ _ _ us hl => match us, hl with | [_, _], _ => rfl
    d_waits := d5
    F_waits := F5
    b_waits := FunD.bindsN (ps := ["rule", "falls"]) F5 fun _ _ _ _ _ _ us hl => match us, hl with | [_, _], _ => rfl
    d_law_bag := d6
    F_law_bag := F6
    b_law_bag := FunD.bindsN (ps := ["_law_script", "_law_at"]) F6 fun _ _ _ _ _ _ us hl => match us, hl with | [_, _], _ => rfl
    d_law_take := d7
    F_law_take := F7
    b_law_take := FunD.bindsN (ps := ["_law_bag_here", "_law_size"]) F7 fun _ _ _ _ _ _ us hl => match us, hl with | [_, _], _ => rfl
    d_law_rule_parts := d8
    F_law_rule_parts := F8
    b_law_rule_parts := FunD.bindsN (ps := ["_law_bag_here"]) F8 fun _ _ _ _ _ _ us hl => match us, hl with | [_], _ => rfl
    d_law_rule := d9
    F_law_rule := F9
    b_law_rule := FunD.bindsN (ps := ["_law_five"]) F9 fun _ _ _ _ _ _ us hl => match us, hl with | [_], _ => rfl
    d_law_rows := d10
    F_law_rows := F10
    b_law_rows := FunD.bindsN (ps := ["_law_bag_here", "_law_gap"]) F10 fun _ _ _ _ _ _ us hl => match us, hl with | [_, _], _ => rfl
    d_law_row_right := d11
    F_law_row_right := F11
    b_law_row_right := FunD.bindsN (ps := ["_law_one", "_law_five", "_law_told"]) F11 fun _ _ _ _ _ _ us hl => match us, hl with | [_, _, _], _ => rfl
    d_law := d12
    F_law := F12
    b_law := FunD.bindsN (ps := ["_law_script"]) F12 fun _ _ _ _ _ _ us hl => match us, hl with | [_], _ => rfl
    me_Rule_eq := He.meth_ok (c.fact 0 (f := .meth "Rule" "__eq__") rfl)
    me_Rule_str := He.meth_ok (c.fact 1 (f := .meth "Rule" "__str__") rfl)
    me_Rule_repr := He.meth_ok (c.fact 2 (f := .meth "Rule" "__repr__") rfl)
    m_wait_behind := He.glo_ok X G (c.fact 3 (f := .glo "wait_behind") rfl)
    m_waits := He.glo_ok X G (c.fact 4 (f := .glo "waits") rfl)
    m_law_bag := He.glo_ok X G (c.fact 5 (f := .glo "_law_bag") rfl)
    m_law_take := He.glo_ok X G (c.fact 6 (f := .glo "_law_take") rfl)
    m_law_rule_parts := He.glo_ok X G (c.fact 7 (f := .glo "_law_rule_parts") rfl)
    m_law_rule := He.glo_ok X G (c.fact 8 (f := .glo "_law_rule") rfl)
    m_law_rows := He.glo_ok X G (c.fact 9 (f := .glo "_law_rows") rfl)
    m_law_row_right := He.glo_ok X G (c.fact 10 (f := .glo "_law_row_right") rfl)
    m_law := He.glo_ok X G (c.fact 11 (f := .glo "law") rfl)
    m_Rule := He.glo_ok X G (c.fact 12 (f := .glo "Rule") rfl)
    cl_Rule := He.cls_ok (c.fact 13 (f := .cls "Rule") rfl)
    mk_Rule := He.mkr_ok (c.fact 14 (f := .mkr "Rule") rfl)
    na_Rule_first := He.noat_ok (c.fact 15 (f := .noat "Rule" "first") rfl)
    na_Rule_times := He.noat_ok (c.fact 16 (f := .noat "Rule" "times") rfl)
    na_Rule_top := He.noat_ok (c.fact 17 (f := .noat "Rule" "top") rfl)
    na_Rule_burst := He.noat_ok (c.fact 18 (f := .noat "Rule" "burst") rfl)
    na_Rule_span := He.noat_ok (c.fact 19 (f := .noat "Rule" "span") rfl)
    n_isinstance := He.free_ok X G (c.fact 20 (f := .free "isinstance") rfl)
    n_range := He.free_ok X G (c.fact 21 (f := .free "range") rfl)
    n_min := He.free_ok X G (c.fact 22 (f := .free "min") rfl)
    n_enumerate := He.free_ok X G (c.fact 23 (f := .free "enumerate") rfl)
    n_abs := He.free_ok X G (c.fact 24 (f := .free "abs") rfl)
    n_len := He.free_ok X G (c.fact 25 (f := .free "len") rfl)
    n_int := He.free_ok X G (c.fact 26 (f := .free "int") rfl)
    n_tuple := He.free_ok X G (c.fact 27 (f := .free "tuple") rfl)
    n_sum := He.free_ok X G (c.fact 28 (f := .free "sum") rfl)
    n_bool := He.free_ok X G (c.fact 29 (f := .free "bool") rfl)
    n_max := He.free_ok X G (c.fact 30 (f := .free "max") rfl)
    n_list := He.free_ok X G (c.fact 31 (f := .free "list") rfl)
    kb_Rule_init_1_first_times_top_burst_span := kb_Rule_init_1_first_times_top_burst_span_mk F0 }
  have e := hfa.symm.trans T.m_law
  cases e
  have b := FunD.bindsA (ps := ["_law_script"]) T.F_law fun _ _ _ _ _ _ us hl => match us, hl with | [_], _ => rfl
  exact ⟨T.d_law, fun s v => b s [v] rfl, fun base _ _ => ok_law T⟩
end K03
open PySem PySem.W PySem.Calls PyProof.Rows
set_option maxRecDepth 100000 in
set_option maxHeartbeats 0 in
theorem PySem.Challenge.cw_unitwants_k03_whole_rows_of_falls_holds : PySem.Challenge.rw_unitwants_k03_whole_rows_of_falls.Holds := by
  w_on; o_law
  refine HandSHeadRun.head_any (r := OpenLaw.row PySem.Challenge.rw_unitwants_k03_whole_rows_of_falls) (q := view (OpenLaw.row PySem.Challenge.rw_unitwants_k03_whole_rows_of_falls).prog [11]) (H := K03.hk) (ob := K03.ob) (M := 4000) (loose := ["Rule", "wait_behind", "waits", "_law_bag", "_law_take", "_law_rule_parts", "_law_rule", "_law_rows", "_law_row_right"]) (d := HandSHeadRun.topDef (OpenLaw.row PySem.Challenge.rw_unitwants_k03_whole_rows_of_falls).prog 11) (kwd := []) K03.ob_eq
    (by kernel_rfl) (fun s => by kernel_rfl) K03.run (by kernel_rfl) (by kernel_rfl) (by kernel_rfl) (by rfl) (by first | assumption | decide +kernel) (by decide +kernel) ⟨rfl, rfl, rfl, rfl, rfl, by decide +kernel⟩ ?hw ?hc
  case hw => w_witness2
  case hc =>
    refine L2.walk_ofE (l := PySem.Challenge.rw_unitwants_k03_whole_rows_of_falls) (n := 63) (k := 5) (x := "_law_script") (CX := L2.CX0) rfl (by decide) (by kernel_rfl) ⟨rfl, by decide, by decide⟩ ?F (fun _ _ _ _ z => z)
    intro w mg fa h Y G hmg0
    obtain ⟨K, KX, c⟩ := Y
    have hmg : mg ("law" : PySem.Str) = some (.ref fa) := by
      have e : (HandSHeadRun.topDef (OpenLaw.row PySem.Challenge.rw_unitwants_k03_whole_rows_of_falls).prog 11).name = ("law" : PySem.Str) := by kernel_rfl
      rw [← e]
      exact hmg0
    obtain ⟨fd, hb, hF⟩ := K03.facts (P := (PySem.Challenge.rw_unitwants_k03_whole_rows_of_falls).prog) (w := w) KX G hmg c
    exact ⟨K, fd, K03.sp_law K, KX, hb, fun H a ns hl _ hS => ⟨a, ns, rfl, hS, hl, fun _ => rfl⟩, hF⟩
