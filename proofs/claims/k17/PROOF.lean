import PyProof.Rows.All
import Wide.All
import OpenK.AllK
import Wide.FinOn
import KE.KStateDown
import HandS.ForMost
import HandS.More
import HandS.WordsExc
import HandS.Defaults
import HandS.MakeKwOnly
import HandS.IsInst
import HandS.FStr
import HandS.Walk
import HandS.TupAny
import HandS.SortKw
import HandS.OwnEq
import KE.KFmtOwn
import KE.DataMinMax
import KE.DatumOrd
import KE.SortData
import HandS.Deep
import HandS.SetKeys
import HandS.DictComp
import HandS.Conv
import HandS.Style
import HandS.Evl
import HandS.Head0
import HandS.Head1
import HandS.Head2
import HandS.HeadEnd
import HandS.HeadHook1
import HandS.HeadHook2
import PySem.Challenge.RW_unitwants_k17_whole_least_closures
import HandS.Set
import HandS.SetTxt0
import HandS.TupSets
import KE.GoesMore
set_option Elab.async false
set_option linter.all false
set_option maxRecDepth 100000
set_option maxHeartbeats 4000000
/-! own layer: heaps, rules that lacked, the bag of draws -/
namespace UW
open PySem PySem.Spec PyProof.Rows L2

/-! ### heaps -/
theorem same_upd {H : Hp} {p : Addr} {o : HO} (h : H p = none) : Same H (upd H p o) := fun b x e => by
  rw [upd_ne (ne_of_none e h)]
  exact e
theorem new_at {H H2 : Hp} {p : Addr} {o : HO} (e : upd H p o = H2) : H2 p = some o := by
  rw [← e]
  exact upd_same
theorem new_same {H H2 : Hp} {p : Addr} {o : HO} (e : upd H p o = H2) (h : H p = none) : Same H H2 := by
  rw [← e]
  exact same_upd h
/-- all but p is as it was -/
def Kp (p : Addr) (H H' : Hp) : Prop := ∀ c o, H c = some o → c ≠ p → H' c = some o
theorem Kp.refl (p : Addr) (H : Hp) : Kp p H H := fun _ _ h _ => h
theorem Kp.trans {p : Addr} {H H1 H2 : Hp} (a : Kp p H H1) (b : Kp p H1 H2) : Kp p H H2 := fun c o h n => b c o (a c o h n) n
theorem Kp.of {p : Addr} {H H' : Hp} (s : Same H H') : Kp p H H' := fun c o h _ => s c o h
theorem Kp.same {p : Addr} {H H1 H2 : Hp} (a : Kp p H H1) (b : Same H1 H2) : Kp p H H2 := a.trans (.of b)
theorem mut_keep {H H2 : Hp} {p : Addr} {o : HO} (e : upd H p o = H2) : Kp p H H2 := fun c x h n => by
  rw [← e, upd_ne n]
  exact h
/-- an object that H did not know has changed -/
theorem Kp.own {p q : Addr} {H H1 H2 : Hp} (a : Kp p H H1) (b : Kp q H1 H2) (n : H q = none) : Kp p H H2 := fun c o h m => b c o (a c o h m) (ne_of_none h n)
theorem Same.own {q : Addr} {H H1 H2 : Hp} (a : Same H H1) (b : Kp q H1 H2) (n : H q = none) : Same H H2 := fun c o h => b c o (a c o h) (ne_of_none h n)
theorem Kp.free {p q : Addr} {H H' : Hp} (a : Kp p H H') (h : H' q = none) (n : q ≠ p) : H q = none := by
  cases e : H q with
  | none => rfl
  | some o =>
    rw [a q o e n] at h
    cases h
theorem Kp.seq {K : PySem.W.Frag} {p a : Addr} {H H' : Hp} {xs : List V} (k : Kp p H H') (n : a ≠ p) (h : SqL K H a xs) : SqL K H' a xs := by
  rcases h with (h | ⟨o, h⟩) | h
  · exact .inl (.inl (k _ _ h n))
  · exact .inl (.inr ⟨o, k _ _ h n⟩)
  · exact .inr h
theorem ne_some {H : Hp} {a b : Addr} {o : HO} (h : H a = some o) (n : H b = none) : a ≠ b := fun e => by
  rw [e, n] at h
  cases h

/-! ### rules that lacked -/
section
variable {X : Cx}
def CPowL (i j : Int) : Prop := 0 ≤ j ∧ j ≤ 100 ∧ i.natAbs < 2 ^ 1000
theorem op_powL : OpR X (binaryOp .Pow) (rI CPowL fun i j => .int (i ^ j.toNat)) := opI fun i j _ _ _ _ _ hc q => by
  obtain ⟨h1, h2, h3⟩ := hc
  have b := intBits_le h3
  refine pow_int h1 ?_ q
  have b' : (Builtin.Int.intBits i : Int) ≤ 1000 := by exact_mod_cast b
  have b0 : (0 : Int) ≤ (Builtin.Int.intBits i : Int) := Int.natCast_nonneg _
  have := Int.mul_le_mul b' h2 h1 (by decide)
  exact Int.le_trans this (by decide)
def ipC (C : Int → Int → Prop) (f : Int → Int → Int) : TIp := fun x y H Q => ∃ i j, x = .int i ∧ y = .int j ∧ C i j ∧ Q (.int (f i j)) H
theorem ip_mul : PIp X .Mult (ipC CMul fun i j => i * j) := by
  intro pins s σ H x y v u Q I r1 r2 h
  obtain ⟨i, j, e1, e2, hc, q⟩ := h
  subst e1; subst e2
  obtain ⟨t, rfl⟩ := r1
  obtain ⟨t', rfl⟩ := r2
  exact imul_int ⟨.int _, H, I.tok _, ⟨_, rfl⟩, q⟩ hc.ok
theorem vals_take {vs : List V} {us : List Value} (h : Vals vs us) : ∀ n, Vals (vs.take n) (us.take n) := by
  induction h with
  | nil => intro n; rw [List.take_nil, List.take_nil]; exact .nil
  | cons r _ ih =>
    intro n
    cases n with
    | zero => exact .nil
    | succ n => exact .cons r (ih n)
/-- f(k = v, ..) -/
theorem pe_callN0 {CX : CXT} {k : Nat} {f : Addr} {fd : FuncData} {ps ks : List Str} {sp : Sp} {E : XK} {x : Str} {p pos : Pos} {kws : List Keyword} {tk : TA} {g : List Value → List Value → List Value} {gV : List V → List V → List V}
    (F : FnOk X.prog X.w X.K X.mg X.base CX k f fd ps sp) (hr : Room k X.A) (hg : Gl X x) (hm : X.mg x = some (.ref f)) (hk : PySem.W.keepIn X.K (.ref f) = true) (hb : KBn X.K fd ps 0 ks g gV) (hx : Passes CX X E) (hkw : PK X kws tk)
    (hall : (backToKw pos (keywordEach kws X.env)).all (·.1.isSome) = true := by rfl) (hks : (backToKw pos (keywordEach kws X.env)).filterMap (·.1) = ks := by rfl) (hdb : (x == ("__debug__" : Str)) = false := by decide)
    (hpl : ((backTo pos (starEach [] X.env)).any (·.1) || (backToKw pos (keywordEach kws X.env)).any (·.1.isNone)) = false := by rfl) :
    PE X (.Call (.Name x p) [] kws pos) (tCallN 0 ks.length sp gV E tNil tk) := by
  refine ⟨fun pins s σ H Q I h => ?_⟩
  refine wpAny_Call_Name_kw (ld_glob I hg hm ?_ hdb)
  refine PySem.W.callWith_KW0 (h₀ := X.base) I.ok.mod.kin hk hall ?_ hpl
  refine thn (hkw.run pos pins s σ H _ I h) fun ws s2 ⟨zs, H2, I2, rz, l1, l2, q2⟩ => ⟨I2.kIn, ?_⟩
  rw [hks]
  exact run_fnN (us := []) (vs := []) F hr hb hx I2 .nil rz rfl l2 q2
end

/-! ### the bag of draws -/
structure Bag (n : Nat) (H : Hp) (p : Addr) : Prop where
  ex : ∃ a b c : Int, H p = some (.lst [.int a, .int b, .int c]) ∧ 0 ≤ a ∧ 0 ≤ b ∧ b < 2 ^ 64 ∧ 0 ≤ c ∧ c ≤ n
theorem Bag.le {n m : Nat} {H : Hp} {p : Addr} (b : Bag n H p) (h : n ≤ m) : Bag m H p := by
  obtain ⟨a, x, c, h1, h2, h3, h4, h5, h6⟩ := b.ex
  exact ⟨a, x, c, h1, h2, h3, h4, h5, by omega⟩
theorem Bag.same {n : Nat} {H H' : Hp} {p : Addr} (b : Bag n H p) (s : Same H H') : Bag n H' p := by
  obtain ⟨a, x, c, h1, h⟩ := b.ex
  exact ⟨a, x, c, s _ _ h1, h⟩
theorem Bag.keep {n : Nat} {H H' : Hp} {p q : Addr} (b : Bag n H p) (s : Kp q H H') (ne : p ≠ q) : Bag n H' p := by
  obtain ⟨a, x, c, h1, h⟩ := b.ex
  exact ⟨a, x, c, s _ _ h1 ne, h⟩
theorem Bag.ne {n : Nat} {H : Hp} {p q : Addr} (b : Bag n H p) (h : H q = none) : p ≠ q := by
  obtain ⟨a, x, c, h1, _⟩ := b.ex
  exact ne_some h1 h
theorem Bag.some {n : Nat} {H : Hp} {p : Addr} (b : Bag n H p) : ∃ o, H p = some o := by
  obtain ⟨a, x, c, h1, _⟩ := b.ex
  exact ⟨_, h1⟩
/-- the five numbers of a rule within their bounds -/
structure Five (f m t b s : Int) : Prop where
  f1 : 1 ≤ f
  f2 : f ≤ 1000
  m1 : 1 ≤ m
  m2 : m ≤ 10
  t1 : 1 ≤ t
  t2 : t ≤ 1000000
  b1 : 0 ≤ b
  b2 : b ≤ 20
  s1 : 0 ≤ s
  s2 : s ≤ 1000000
end UW
namespace UW
open PySem L2
/-- for i, x in enumerate(xs), both names plain -/
theorem for_enum2 {K : PySem.W.Frag} {a : Addr} {xs : List V} {i j : Nat} {tb : TS} {D : Ends} {σ : St} {H : Hp} (Pv : Nat → St → Hp → Prop) (h0 : Pv 0 σ H) (hl : ∀ k σ H, k ≤ xs.length → Pv k σ H → SqL K H a xs)
    (hs : ∀ k x σ H H2, xs[k]? = some x → Pv k σ H → Same H H2 → tb { D with nx := Pv (k + 1), ct := Pv (k + 1), bk := D.nx } ((σ.set i (some (.int (k : Nat)))).set j (some x)) H2) (hd : ∀ σ H, Pv xs.length σ H → D.nx σ H) :
    ∃ W : Nat → Nat → St → Hp → Prop, (∃ m, W 0 m σ H) ∧ ∀ k m σ H, W k m σ H →
      ((Ite K a).stop k H ∧ D.nx σ H) ∨ ((Ite K a).go k H ∧ ∃ N : St → Hp → Prop, (∀ σ' H', N σ' H' → ∃ m', m' < m ∧ W (k + 1) m' σ' H') ∧ ∀ x H', (Ite K a).yld k H x H' → gTup K 2 (gCons (gName i) (gCons (gName j) gNil)) x σ H' fun σ2 H2 => tb { D with nx := N, ct := N, bk := D.nx } σ2 H2) := by
  refine for_it walk_enum Pv h0 hl (fun k v σ H H' hk p y => ?_) hd
  obtain ⟨T, x, y, rfl, nT, rfl, e1, e2⟩ := y
  cases e1
  exact ⟨T, _, rfl, .inl (.inl upd_same), rfl, _, _, rfl, _, _, rfl, rfl, hs k y σ H _ e2 p (same_upd nT)⟩
/-- one item of a short list by its place -/
theorem at0 {α : Type} {a : α} {r : List α} : atI (a :: r) 0 = some a := atI_nat (j := 0) rfl
theorem at1 {α : Type} {a b : α} {r : List α} : atI (a :: b :: r) 1 = some b := atI_nat (j := 1) rfl
theorem at2 {α : Type} {a b c : α} {r : List α} : atI (a :: b :: c :: r) 2 = some c := atI_nat (j := 2) rfl
theorem at3 {α : Type} {a b c d : α} {r : List α} : atI (a :: b :: c :: d :: r) 3 = some d := atI_nat (j := 3) rfl
theorem at4 {α : Type} {a b c d e : α} {r : List α} : atI (a :: b :: c :: d :: e :: r) 4 = some e := atI_nat (j := 4) rfl
end UW
namespace UW
open PySem L2
theorem bag_made {H : Hp} {p : Addr} {c k : Int} {b : Bool} (h0 : 0 ≤ k) (h1 : k ≤ 1000) : Bag 0 (upd H p (.lst [.int ((if c < 0 then -c else c) * (if b = true then 1 else 0)), .int (c % (10 ^ (18 : Int).toNat + 9) + 1299709 * k), .int 0])) p := by
  refine ⟨_, _, _, upd_same, ?_, ?_, ?_, Int.le_refl _, Int.le_refl _⟩
  · have : (0 : Int) ≤ if c < 0 then -c else c := by split <;> omega
    cases b
    · simp
    · simpa using this
  · have e : (10 ^ (18 : Int).toNat + 9 : Int) = 1000000000000000009 := by decide
    rw [e]
    omega
  · have e : (10 ^ (18 : Int).toNat + 9 : Int) = 1000000000000000009 := by decide
    rw [e]
    omega
end UW
namespace UW
open PySem L2
theorem cmul_b {i : Int} {b : Bool} : CMul i (if b = true then 1 else 0) := by
  cases b
  · exact .inr ⟨by decide, by decide⟩
  · exact .inr ⟨by decide, by decide⟩
theorem pow10 {j : Int} (h0 : 0 ≤ j := by decide) (h1 : j ≤ 100 := by decide) : CPowL 10 j :=
  ⟨h0, h1, Nat.lt_of_lt_of_le (show (10 : Int).natAbs < 2 ^ 4 by decide) (Nat.pow_le_pow_right (by decide) (by decide))⟩
/-- the primes of a draw -/
abbrev primes : List V := [.int 2147483647, .int 2147483629, .int 2147483587, .int 2147483579, .int 2147483563, .int 2147483549, .int 2147483543, .int 2147483497]
theorem prime_at (c : Int) : ∃ p : Int, atI primes (c % 8) = some (.int p) ∧ 0 < p ∧ p < 2147483648 := by
  have h0 : 0 ≤ c % 8 := Int.emod_nonneg _ (by decide)
  have h1 : c % 8 < 8 := Int.emod_lt_of_pos _ (by decide)
  generalize c % 8 = d at h0 h1
  obtain ⟨k, rfl⟩ := Int.eq_ofNat_of_zero_le h0
  have hk : k < 8 := by omega
  match k, hk with
  | 0, _ => exact ⟨_, atI_nat (j := 0) rfl, by decide, by decide⟩
  | 1, _ => exact ⟨_, atI_nat (j := 1) rfl, by decide, by decide⟩
  | 2, _ => exact ⟨_, atI_nat (j := 2) rfl, by decide, by decide⟩
  | 3, _ => exact ⟨_, atI_nat (j := 3) rfl, by decide, by decide⟩
  | 4, _ => exact ⟨_, atI_nat (j := 4) rfl, by decide, by decide⟩
  | 5, _ => exact ⟨_, atI_nat (j := 5) rfl, by decide, by decide⟩
  | 6, _ => exact ⟨_, atI_nat (j := 6) rfl, by decide, by decide⟩
  | 7, _ => exact ⟨_, atI_nat (j := 7) rfl, by decide, by decide⟩
theorem basis_small {b c : Int} (h0 : 0 ≤ b) (h1 : b < 2 ^ 64) (h2 : 0 ≤ c) (h3 : c < 2000000000) : (b * (2 * c + 1) + 7919 * c * c + 29).natAbs < 2 ^ 1000 := by
  have e1 : b * (2 * c + 1) ≤ 2 ^ 64 * (2 * 2000000000 + 1) := Int.mul_le_mul (by omega) (by omega) (by omega) (by decide)
  have e2 : 7919 * c * c ≤ 7919 * 2000000000 * 2000000000 := Int.mul_le_mul (by omega) (by omega) h2 (by decide)
  have e3 : 0 ≤ b * (2 * c + 1) := Int.mul_nonneg h0 (by omega)
  have e4 : 0 ≤ 7919 * c * c := Int.mul_nonneg (by omega) h2
  refine Nat.lt_of_lt_of_le (m := 2 ^ 200) ?_ (Nat.pow_le_pow_right (by decide) (by decide))
  have e5 : b * (2 * c + 1) + 7919 * c * c + 29 < 2 ^ 200 := by
    have : (2 ^ 64 * (2 * 2000000000 + 1) + 7919 * 2000000000 * 2000000000 + 29 : Int) < 2 ^ 200 := by decide
    omega
  omega
end UW
namespace UW
open PySem L2
/-- a draw: a number from 0 to below a size; the bag alone has changed -/
@[irreducible] def spTake : Sp := fun vs H Q _ => ∃ (p : Addr) (z : Int) (n : Nat), vs = [.ref p, .int z] ∧ Bag n H p ∧ 0 < z ∧ z < 1073741824 ∧ n < 1000000000 ∧
  ∀ (r : Int) H', 0 ≤ r → r < z → Bag (n + 1) H' p → Kp p H H' → Q (.int r) H'
theorem take_of {H : Hp} {p : Addr} {n : Nat} {z : Int} {Q : VK} {E : XK} (B : Bag n H p) (h0 : 0 < z) (h1 : z < 1073741824) (hn : n < 1000000000)
    (q : ∀ (r : Int) H', 0 ≤ r → r < z → Bag (n + 1) H' p → Kp p H H' → Q (.int r) H') : spTake [.ref p, .int z] H Q E := by
  unfold spTake
  exact ⟨p, z, n, rfl, B, h0, h1, hn, q⟩
theorem take_un {vs : List V} {H : Hp} {Q : VK} {E : XK} (h : spTake vs H Q E) : ∃ (p : Addr) (z : Int) (n : Nat), vs = [.ref p, .int z] ∧ Bag n H p ∧ 0 < z ∧ z < 1073741824 ∧ n < 1000000000 ∧
    ∀ (r : Int) H', 0 ≤ r → r < z → Bag (n + 1) H' p → Kp p H H' → Q (.int r) H' := by
  unfold spTake at h
  exact h
/-- take(bag, [z1, ..][take(bag, k)]), the menu just laid at l -/
theorem take_menu {K : PySem.W.Frag} {H : Hp} {p l : Addr} {n : Nat} {zs : List Int} {k : Int} {Q : VK} {E E' : XK} (B : Bag n H p) (hn : n < 900000000) (hl : H l = none) (hk : k = (zs.length : Int)) (hz0 : 0 < zs.length) (hz1 : zs.length < 1000) (hz : ∀ z ∈ zs, 0 < z ∧ z < 1073741824)
    (q : ∀ (z r : Int) H', z ∈ zs → 0 ≤ r → r < z → Bag (n + 2) H' p → Kp p H H' → Q (.int r) H') :
    spTake [.ref p, .int k] (upd H l (.lst (zs.map V.int))) (fun v H2 => rIxL K (.ref l) v H2 fun w H3 => spTake [.ref p, w] H3 Q E) E' := by
  subst hk
  generalize hE : upd H l _ = H1
  have k1 := new_at hE
  have s1 := new_same hE hl
  have npl := B.ne hl
  refine take_of (B.same s1) (by omega) (by omega) (by omega) fun r H2 r0 r1 B2 kp2 => ?_
  obtain ⟨j, rfl⟩ := Int.eq_ofNat_of_zero_le r0
  have hj : j < zs.length := by omega
  have hm : zs[j] ∈ zs := List.getElem_mem hj
  refine ⟨l, _, _, .int zs[j], rfl, rfl, SqL.of (kp2 _ _ k1 npl.symm), atI_nat (by rw [List.getElem?_map, List.getElem?_eq_getElem hj]; rfl), ?_⟩
  refine take_of B2 (hz _ hm).1 (hz _ hm).2 (by omega) fun r2 H3 q0 q1 B3 kp3 => ?_
  exact q _ r2 H3 hm q0 q1 B3 ((Kp.of s1).trans (kp2.trans kp3))
end UW
namespace UW
open PySem L2
section
variable {X : Cx}
/-- a statement, then the rest, with a word between -/
def tMid (t u : TS) : TS := fun D σ H => ∃ M : L2.St → Hp → Prop, t { D with nx := M } σ H ∧ ∀ σ' H', M σ' H' → u D σ' H'
theorem pss_mid {st : Stmt} {rest : List Stmt} {t u : TS} (h1 : PS X st t) (h2 : PSs X rest u) : PSs X (st :: rest) (tMid t u) := by
  refine ⟨fun pins s σ H D I h => ?_⟩
  obtain ⟨M, hm, hu⟩ := h
  refine wpAny_execs_cons (thn (h1.run pins s σ H { D with nx := M } I hm) fun f s1 q => ?_)
  cases f with
  | next =>
    obtain ⟨σ', H', I', q⟩ := q
    exact h2.run pins s1 σ' H' D I' (hu σ' H' q)
  | ret v => exact q
  | brk => exact q
  | cont => exact q
/-- an expression with a word behind it -/
def tMidE (t : TE) : TE := fun σ H Q => ∃ M : VK, t σ H M ∧ ∀ v H', M v H' → Q v H'
theorem pe_mid {e : Expr} {t : TE} (h : PE X e t) : PE X e (tMidE t) := by
  refine ⟨fun pins s σ H Q I ⟨M, hm, hq⟩ => ?_⟩
  exact thn (h.run pins s σ H M I hm) fun u s1 ⟨v, H', I', r, q⟩ => ⟨v, H', I', r, hq v H' q⟩
def tMidT (t : TT) : TT := fun σ H Q => ∃ M : Bool → Hp → Prop, t σ H M ∧ ∀ b H', M b H' → Q b H'
theorem pt_mid {e : Expr} {t : TT} (h : PT X e t) : PT X e (tMidT t) := by
  refine ⟨fun pins s σ H Q I ⟨M, hm, hq⟩ => ?_⟩
  exact thn (h.run pins s σ H M I hm) fun b s1 ⟨H', I', q⟩ => ⟨H', I', hq b H' q⟩
end
end UW
namespace UW
theorem iteY {c A B : Prop} [Decidable c] (hc : c) (h : A) : if c then A else B := by
  rw [if_pos hc]
  exact h
theorem iteN {c A B : Prop} [Decidable c] (hc : ¬ c) (h : B) : if c then A else B := by
  rw [if_neg hc]
  exact h
theorem iteYd {c A B : Prop} [Decidable c] (hc : c) (h : A) : if decide c = true then A else B := iteY (decide_eq_true hc) h
theorem iteNd {c A B : Prop} [Decidable c] (hc : ¬ c) (h : B) : if decide c = true then A else B := iteN (fun z => hc (of_decide_eq_true z)) h
end UW
namespace UW
open PySem L2
/-- None, truths, ints -/
def flatN : V → Bool
  | .non => true
  | .bl _ => true
  | .int _ => true
  | _ => false
def flatD : V → PyData
  | .non => .none
  | .bl b => .bool b
  | .int i => .int i
  | _ => .none
theorem dp_flat {K : PySem.W.Frag} {H : Hp} {v : V} (h : flatN v = true) : Dp K H v (flatD v) := by
  cases v with
  | non => exact .non
  | bl b => exact .bl b
  | int i => exact .int i
  | _ => cases h
theorem dpAll_flat {K : PySem.W.Frag} {H : Hp} : ∀ {xs : List V}, (∀ v ∈ xs, flatN v = true) → DpAll K H xs (xs.map flatD)
  | [], _ => .nil
  | v :: vs, h => .cons (dp_flat (h v (List.mem_cons_self ..))) (dpAll_flat fun x hx => h x (List.mem_cons_of_mem _ hx))
theorem lay_flat (v : V) : PyData.canLay0 (flatD v) = true ∧ PyData.depth (flatD v) = 0 := by
  cases v <;> exact ⟨by simp only [flatD, PyData.canLay0], by simp only [flatD, PyData.depth]⟩
theorem layAll_flat : ∀ xs : List V, PyData.canLayAll0 (xs.map flatD) = true ∧ PyData.depthAll (xs.map flatD) = 0
  | [] => ⟨by simp only [List.map_nil, PyData.canLayAll0], by simp only [List.map_nil, PyData.depthAll]⟩
  | v :: vs => by
    obtain ⟨a, b⟩ := lay_flat v
    obtain ⟨c, d⟩ := layAll_flat vs
    rw [List.map_cons]
    exact ⟨by simp only [PyData.canLayAll0, a, c, Bool.and_self], by simp only [PyData.depthAll, b, d, Nat.max_self]⟩
theorem shaped_flat (xs : List V) : SeqAt.shaped (.list (xs.map flatD)) = true := by
  obtain ⟨c, d⟩ := layAll_flat xs
  unfold SeqAt.shaped
  simp only [PyData.canLay0, PyData.depth, c, d]
  decide
theorem neD_same {K : PySem.W.Frag} {H : Hp} {a b : Addr} {xs : List V} {Q : VK} (h1 : SqL K H a xs) (h2 : SqL K H b xs) (hf : ∀ v ∈ xs, flatN v = true) (q : Q (.bl false) H) : rNeD K (.ref a) (.ref b) H Q := by
  refine ⟨_, _, .lst h1 (dpAll_flat hf), .lst h2 (dpAll_flat hf), shaped_flat xs, shaped_flat xs, ?_⟩
  have e : PyData.eqv (.list (xs.map flatD)) (.list (xs.map flatD)) = true := SeqAt.eqv_refl _ (by simp only [PyData.canLay0]; exact (layAll_flat xs).1)
  rw [e]
  exact q
end UW
namespace UW
open PySem L2
theorem yes_of {σ : L2.St} {H : Hp} {Q : Bool → Hp → Prop} (h : Q true H) : tYes σ H Q := h
end UW
namespace UW
open PySem L2
/-- max(xs, default=d) of ints: some int -/
def rMaxD (K : PySem.W.Frag) : List V → List V → Hp → VK → Prop := fun vs zs H Q => ∃ (a : Addr) (ns : List Int) (d : Int), vs = [.ref a] ∧ zs = [.int d] ∧ SqL K H a (ns.map V.int) ∧ ∀ m : Int, Q (.int m) H
theorem ints_flatD (ns : List Int) : (ns.map V.int).map flatD = ns.map PyData.int := by
  rw [List.map_map]
  rfl
theorem cr_maxD {X : Cx} (hc : X.calm = true) (hu : X.A.units + 64 < cLine) : CallRK X (.builtin "max") [Str.ofString "default"] (rMaxD X.K) := by
  intro pins s σ H vs zs us ws Q I r rz h
  obtain ⟨a, ns, d, rfl, rfl, hs, q⟩ := h
  obtain ⟨its, rv, hl, _⟩ := I.list hs
  rw [Vals.ref1 r]
  obtain ⟨w1, rfl, t1, rfl⟩ := vals1 rz
  obtain ⟨as, hr⟩ := Dp.readsAll I ((ns.map V.int).map flatD) _ _ (dpAll_flat (K := X.K) (H := H) (xs := ns.map V.int) fun v hv => by
    obtain ⟨i, _, rfl⟩ := List.mem_map.mp hv
    rfl) rv
  have hd := (layAll_flat (ns.map V.int)).2
  refine PySem.W.max_list_default (I.ok.hd hc) hl.isList (vs := its.toArray) hr ⟨?_, ?_⟩ (by rw [hd]; omega) (fun _ h' tk hk => ⟨.int d, H, I.kept hk, ⟨_, rfl⟩, q d⟩) fun y ys i v h' tk bs _ hi _ hk => ?_
  · rw [ints_flatD]
    intro x hx y hy
    obtain ⟨i, _, rfl⟩ := List.mem_map.mp hx
    obtain ⟨j, _, rfl⟩ := List.mem_map.mp hy
    simp only [PySem.W.alike]
  · rw [ints_flatD]
    intro x hx
    obtain ⟨i, _, rfl⟩ := List.mem_map.mp hx
    intro z
    cases z
  · have hv : ∃ n t, v = .int n t := by
      have hi' : its[i]? = some v := by rw [← List.getElem?_toArray]; exact hi
      have : ∀ (vs : List V) (us : List Value) (i : Nat) (v : Value), Vals vs us → us[i]? = some v → ∃ x, vs[i]? = some x ∧ RelV x v := by
        intro vs us i v r
        induction r generalizing i with
        | nil => intro h; simp at h
        | cons r1 _ ih =>
          intro h
          cases i with
          | zero => cases h; exact ⟨_, rfl, r1⟩
          | succ i => exact ih i h
      obtain ⟨x, hx, rx⟩ := this _ _ _ _ rv hi'
      rw [List.getElem?_map] at hx
      cases e : ns[i]? with
      | none => rw [e] at hx; cases hx
      | some n =>
        rw [e] at hx
        cases hx
        obtain ⟨t, rfl⟩ := rx
        exact ⟨n, t, rfl⟩
    obtain ⟨n, t, rfl⟩ := hv
    exact ⟨.int n, H, I.kept hk, ⟨_, rfl⟩, q n⟩
end UW
namespace UW
open PySem L2
theorem ints_flat' (ts : List Int) : ∀ v ∈ ts.map V.int, flatN v = true := fun v hv => by
  obtain ⟨i, _, rfl⟩ := List.mem_map.mp hv
  rfl
theorem eqvAll_len : ∀ xs ys : List PyData, xs.length ≠ ys.length → PyData.eqvAll xs ys = false
  | [], [], h => absurd rfl h
  | [], _ :: _, _ => by simp only [PyData.eqvAll]
  | _ :: _, [], _ => by simp only [PyData.eqvAll]
  | x :: xs, y :: ys, h => by
    simp only [PyData.eqvAll]
    rw [eqvAll_len xs ys (fun e => h (by rw [List.length_cons, List.length_cons, e])), Bool.and_false]
theorem neD_diff {K : PySem.W.Frag} {H : Hp} {a b : Addr} {xs ys : List V} {Q : VK} (h1 : SqL K H a xs) (h2 : SqL K H b ys) (hf : ∀ v ∈ xs, flatN v = true) (hg : ∀ v ∈ ys, flatN v = true) (hl : xs.length ≠ ys.length) (q : Q (.bl true) H) : rNeD K (.ref a) (.ref b) H Q := by
  refine ⟨_, _, .lst h1 (dpAll_flat hf), .lst h2 (dpAll_flat hg), shaped_flat xs, shaped_flat ys, ?_⟩
  have e : PyData.eqv (.list (xs.map flatD)) (.list (ys.map flatD)) = false := by
    simp only [PyData.eqv]
    exact eqvAll_len _ _ (by rw [List.length_map, List.length_map]; exact hl)
  rw [e]
  exact q
theorem eqD_same {K : PySem.W.Frag} {H : Hp} {a b : Addr} {xs : List V} {Q : VK} (h1 : SqL K H a xs) (h2 : SqL K H b xs) (hf : ∀ v ∈ xs, flatN v = true) (q : Q (.bl true) H) : rEqD K (.ref a) (.ref b) H Q := by
  refine ⟨_, _, .lst h1 (dpAll_flat hf), .lst h2 (dpAll_flat hf), shaped_flat xs, shaped_flat xs, ?_⟩
  have e : PyData.eqv (.list (xs.map flatD)) (.list (xs.map flatD)) = true := SeqAt.eqv_refl _ (by simp only [PyData.canLay0]; exact (layAll_flat xs).1)
  rw [e]
  exact q
end UW
namespace UW
open PySem L2
theorem slA {K : PySem.W.Frag} {H : Hp} {a : Addr} {xs : List V} {lo hi : Option Int} {Q : VK} (h : SqT K H a xs) (q : ∀ p H', Same H H' → SqT K H' p (cutV xs lo hi) → Q (.ref p) H') : rSlA K (.ref a) lo hi H Q := by
  refine ⟨a, xs, rfl, h, fun e => ?_, fun _ p np => ?_⟩
  · refine q a H (Same.refl H) ?_
    have : cutV xs lo hi = xs := by
      unfold cutV
      rw [e.1, e.2, List.drop_zero, Nat.sub_zero, List.take_length]
    rw [this]
    exact h
  · exact q p _ (same_upd np) (SqT.of upd_same)
theorem catA {K : PySem.W.Frag} {H : Hp} {a b : Addr} {xs ys : List V} {Q : VK} (h : SqT K H a xs) (h2 : SqT K H b ys) (hl : xs.length + ys.length ≤ 1000) (q : ∀ p H', Same H H' → SqT K H' p (xs ++ ys) → Q (.ref p) H') : rCatA K (.ref a) (.ref b) H Q := by
  refine ⟨a, b, xs, ys, rfl, rfl, h, h2, Nat.le_trans hl (by decide), fun e => ?_, fun _ e => ?_, fun _ _ p np => ?_⟩
  · exact q b H (Same.refl H) (by rw [e]; exact h2)
  · exact q a H (Same.refl H) (by rw [e, List.append_nil]; exact h)
  · exact q p _ (same_upd np) (SqT.of upd_same)
end UW
namespace UW
open PySem L2
/-! ### names -/
/-- one to eight letters -/
def Nm (x : Str) : Prop := (∀ c ∈ x.cps.toList, 97 ≤ c ∧ c ≤ 122) ∧ 0 < x.length ∧ x.length ≤ 8
abbrev lettersS : Str := Str.ofString "abcdefghijklmnopqrstuvwxyz"
abbrev srettelS : Str := Str.ofString "zyxwvutsrqponmlkjihgfedcba"
theorem letters_tl : lettersS.cps.toList = (List.range 26).map (97 + ·) := by decide +kernel
theorem srettel_tl : srettelS.cps.toList = (List.range 26).map (122 - ·) := by decide +kernel
theorem letters_size : lettersS.cps.size = 26 := by decide +kernel
theorem srettel_size : srettelS.cps.size = 26 := by decide +kernel
theorem len_tl' (x : Str) : x.length = x.cps.toList.length := TL.len_tl x
theorem tl_app (x y : Str) : (x ++ y).cps.toList = x.cps.toList ++ y.cps.toList := TL.tl_append x y
theorem str_ext {x y : Str} (h : x.cps.toList = y.cps.toList) : x = y := TL.ext_tl h
theorem letter_at {r : Int} (h0 : 0 ≤ r) (h1 : r < 26) : ∃ c, atI lettersS.cps.toList r = some c ∧ 97 ≤ c ∧ c ≤ 122 := by
  obtain ⟨j, rfl⟩ := Int.eq_ofNat_of_zero_le h0
  have hj : j < 26 := by omega
  refine ⟨97 + j, atI_nat ?_, by omega, by omega⟩
  rw [letters_tl, List.getElem?_map, List.getElem?_range hj]
  rfl
theorem letters_get {i c : Nat} (h : lettersS.cps[i]? = some c) : i < 26 ∧ c = 97 + i := by
  rw [← Array.getElem?_toList, letters_tl, List.getElem?_map] at h
  by_cases hi : i < 26
  · rw [List.getElem?_range hi] at h
    exact ⟨hi, (Option.some.inj h).symm⟩
  · rw [List.getElem?_eq_none (by rw [List.length_range]; omega)] at h
    cases h
theorem srettel_get {i c : Nat} (h : srettelS.cps[i]? = some c) : i < 26 ∧ c = 122 - i := by
  rw [← Array.getElem?_toList, srettel_tl, List.getElem?_map] at h
  by_cases hi : i < 26
  · rw [List.getElem?_range hi] at h
    exact ⟨hi, (Option.some.inj h).symm⟩
  · rw [List.getElem?_eq_none (by rw [List.length_range]; omega)] at h
    cases h
theorem inV_str (w : Str) : ∀ xs : List Str, inV (.str w) (xs.map V.str) = decide (w ∈ xs)
  | [] => rfl
  | x :: xs => by
    have ih := inV_str w xs
    unfold inV at ih ⊢
    rw [List.map_cons, List.any_cons, ih]
    show (x == w || decide (w ∈ xs)) = decide (w ∈ x :: xs)
    by_cases h : x = w
    · subst h
      rw [beq_self_eq_true, Bool.true_or, decide_eq_true (List.mem_cons_self ..)]
    · rw [show (x == w) = false from beq_eq_false_iff_ne.mpr h, Bool.false_or]
      exact decide_eq_decide.mpr ⟨fun z => List.mem_cons_of_mem _ z, fun z => by
        rcases List.mem_cons.mp z with z | z
        · exact absurd z.symm h
        · exact z⟩
theorem strs_flat (xs : List Str) : (xs.map V.str).all flatV = true := by
  rw [List.all_eq_true]
  intro v hv
  obtain ⟨x, _, rfl⟩ := List.mem_map.mp hv
  rfl
theorem nodup_le {α : Type} [DecidableEq α] : ∀ (cs ds : List α), cs.Nodup → (∀ c ∈ cs, c ∈ ds) → cs.length ≤ ds.length
  | [], _, _, _ => Nat.zero_le _
  | c :: cs, ds, hn, h => by
    obtain ⟨h1, h2⟩ := List.nodup_cons.mp hn
    have hm := h c (List.mem_cons_self ..)
    have ih := nodup_le cs (ds.erase c) h2 fun x hx => by
      have hne : x ≠ c := fun e => h1 (e ▸ hx)
      exact (List.mem_erase_of_ne hne).mpr (h x (List.mem_cons_of_mem _ hx))
    rw [List.length_erase_of_mem hm] at ih
    have := List.length_pos_of_mem hm
    rw [List.length_cons]
    omega
theorem free_in {α : Type} [DecidableEq α] {cs ds : List α} (hn : cs.Nodup) (h : ds.length < cs.length) : ∃ c ∈ cs, c ∉ ds := by
  by_cases q : ∃ c ∈ cs, c ∉ ds
  · exact q
  · have := nodup_le cs ds hn fun c hc => by
      by_cases hd : c ∈ ds
      · exact hd
      · exact absurd ⟨c, hc, hd⟩ q
    omega
/-- the text without its first sign -/
abbrev tailS (w : Str) : Str := cutS w (some 1) none
theorem tailS_tl (w : Str) : (tailS w).cps.toList = w.cps.toList.drop 1 := by
  show (List.take _ _ : List Nat) = _
  rw [show HT.sIx w.length 0 (some 1) = min 1 w.length from HT.sIx_nat w.length 0 1, HT.sIx_none]
  have hl := len_tl' w
  rw [hl]
  by_cases h : 1 ≤ w.cps.toList.length
  · rw [Nat.min_eq_left h, List.take_of_length_le (by rw [List.length_drop]; exact Nat.le_refl _)]
  · rw [Nat.min_eq_right (by omega), Nat.sub_self, List.take_zero, List.drop_of_length_le (by omega)]
theorem sign_app_tl (c : Nat) (x : Str) : ((⟨#[c]⟩ : Str) ++ x).cps.toList = c :: x.cps.toList := by
  rw [tl_app]
  rfl
/-- the 26 texts with another first letter -/
def cands (x : Str) : List Str := (List.range 26).map fun i => (⟨#[97 + i]⟩ : Str) ++ x
theorem cands_nodup (x : Str) : (cands x).Nodup := by
  unfold cands
  rw [List.nodup_iff_pairwise_ne, List.pairwise_map]
  refine List.Pairwise.imp ?_ List.nodup_range
  intro i j hij e
  have := congrArg (fun z : Str => z.cps.toList) e
  rw [show ((⟨#[97 + i]⟩ : Str) ++ x).cps.toList = (97 + i) :: x.cps.toList from sign_app_tl _ _, show ((⟨#[97 + j]⟩ : Str) ++ x).cps.toList = (97 + j) :: x.cps.toList from sign_app_tl _ _] at this
  injection this with h1 _
  omega
theorem cand_nm {w : Str} (h : Nm w) {i : Nat} (hi : i < 26) : Nm ((⟨#[97 + i]⟩ : Str) ++ tailS w) := by
  obtain ⟨h1, h2, h3⟩ := h
  have e := sign_app_tl (97 + i) (tailS w)
  have hl : ((⟨#[97 + i]⟩ : Str) ++ tailS w).length = w.length := by
    rw [len_tl', e, tailS_tl, List.length_cons, List.length_drop, ← len_tl']
    omega
  refine ⟨fun c hc => ?_, by omega, by omega⟩
  rw [e, tailS_tl] at hc
  rcases List.mem_cons.mp hc with rfl | hc
  · omega
  · exact h1 c (List.mem_of_mem_drop hc)
theorem join_one {ys : List Str} (h : ∀ y ∈ ys, ∃ c, y = ⟨#[c]⟩ ∧ 97 ≤ c ∧ c ≤ 122) (h0 : 0 < ys.length) (h8 : ys.length ≤ 8) : Nm (Txt.join (Str.ofString "") ys) := by
  have key : ∀ ys : List Str, (∀ y ∈ ys, ∃ c, y = ⟨#[c]⟩ ∧ 97 ≤ c ∧ c ≤ 122) → (Str.join (Str.ofString "") ys).cps.toList.length = ys.length ∧ ∀ c ∈ (Str.join (Str.ofString "") ys).cps.toList, 97 ≤ c ∧ c ≤ 122 := by
    intro ys
    induction ys with
    | nil => exact fun _ => ⟨rfl, fun c hc => by cases hc⟩
    | cons y ys ih =>
      intro h
      obtain ⟨c, rfl, h1, h2⟩ := h y (List.mem_cons_self ..)
      cases ys with
      | nil =>
        refine ⟨rfl, fun d hd => ?_⟩
        have hd' : d ∈ [c] := hd
        rw [List.mem_singleton.mp hd']
        exact ⟨h1, h2⟩
      | cons z zs =>
        obtain ⟨i1, i2⟩ := ih fun y hy => h y (List.mem_cons_of_mem _ hy)
        have e : (Str.join (Str.ofString "") (⟨#[c]⟩ :: z :: zs)).cps.toList = c :: (Str.join (Str.ofString "") (z :: zs)).cps.toList := by
          show ((⟨#[c]⟩ : Str) ++ Str.ofString "" ++ Str.join (Str.ofString "") (z :: zs)).cps.toList = _
          rw [tl_app, tl_app]
          rfl
        rw [e]
        refine ⟨by rw [List.length_cons, i1]; rfl, fun d hd => ?_⟩
        rcases List.mem_cons.mp hd with rfl | hd
        · exact ⟨h1, h2⟩
        · exact i2 d hd
  obtain ⟨k1, k2⟩ := key ys h
  rw [TL.join_eq]
  exact ⟨k2, by rw [len_tl', k1]; exact h0, by rw [len_tl', k1]; exact h8⟩
end UW
namespace UW
theorem range_map_succ' {α : Type} (g : Nat → α) (n : Nat) : (List.range (n + 1)).map g = (List.range n).map g ++ [g n] := by
  rw [List.range_succ, List.map_append]
  rfl
end UW
namespace UW
open PySem L2
/-! ### lists and tuples of texts compared -/
theorem Nm.ok {x : Str} (h : Nm x) : PyData.strOk x = true := by
  unfold PyData.strOk
  rw [Array.all_eq_true']
  intro c hc
  have := (h.1 c (Array.mem_toList_iff.mpr hc)).2
  exact decide_eq_true (by omega)
theorem dpAll_strs {K : PySem.W.Frag} {H : Hp} : ∀ xs : List Str, DpAll K H (xs.map V.str) (xs.map PyData.str)
  | [] => .nil
  | x :: xs => .cons (.str x) (dpAll_strs xs)
theorem layAll_strs : ∀ {xs : List Str}, (∀ x ∈ xs, PyData.strOk x = true) → PyData.canLayAll0 (xs.map PyData.str) = true ∧ PyData.depthAll (xs.map PyData.str) = 0
  | [], _ => ⟨by simp only [List.map_nil, PyData.canLayAll0], by simp only [List.map_nil, PyData.depthAll]⟩
  | x :: xs, h => by
    obtain ⟨c, d⟩ := layAll_strs fun y hy => h y (List.mem_cons_of_mem _ hy)
    rw [List.map_cons]
    exact ⟨by simp only [PyData.canLayAll0, PyData.canLay0, h x (List.mem_cons_self ..), c, Bool.and_self], by simp only [PyData.depthAll, PyData.depth, d, Nat.max_self]⟩
theorem shaped_strs {xs : List Str} (h : ∀ x ∈ xs, PyData.strOk x = true) : SeqAt.shaped (.list (xs.map PyData.str)) = true := by
  obtain ⟨c, d⟩ := layAll_strs h
  unfold SeqAt.shaped
  simp only [PyData.canLay0, PyData.depth, c, d]
  decide
theorem eqvAll_strs : ∀ xs ys : List Str, PyData.eqvAll (xs.map PyData.str) (ys.map PyData.str) = decide (xs = ys)
  | [], [] => by simp only [List.map_nil, PyData.eqvAll]; rfl
  | [], y :: ys => by simp only [List.map_nil, List.map_cons, PyData.eqvAll]; rfl
  | x :: xs, [] => by simp only [List.map_nil, List.map_cons, PyData.eqvAll]; rfl
  | x :: xs, y :: ys => by
    simp only [List.map_cons, PyData.eqvAll, PyData.eqv]
    rw [eqvAll_strs xs ys]
    by_cases h : x = y
    · subst h
      rw [beq_self_eq_true, Bool.true_and]
      exact decide_eq_decide.mpr ⟨fun e => by rw [e], fun e => by injection e⟩
    · rw [show (x == y) = false from beq_eq_false_iff_ne.mpr h, Bool.false_and]
      exact (decide_eq_false fun e => h (by injection e)).symm
/-- xs != ys of texts -/
theorem neD_strs {K : PySem.W.Frag} {H : Hp} {a b : Addr} {xs ys : List Str} {Q : VK} (h1 : SqL K H a (xs.map V.str)) (h2 : SqL K H b (ys.map V.str)) (hx : ∀ x ∈ xs, PyData.strOk x = true) (hy : ∀ y ∈ ys, PyData.strOk y = true) (q : Q (.bl (!decide (xs = ys))) H) : rNeD K (.ref a) (.ref b) H Q := by
  refine ⟨_, _, .lst h1 (dpAll_strs xs), .lst h2 (dpAll_strs ys), shaped_strs hx, shaped_strs hy, ?_⟩
  have e : PyData.eqv (.list (xs.map PyData.str)) (.list (ys.map PyData.str)) = decide (xs = ys) := by
    simp only [PyData.eqv]
    exact eqvAll_strs xs ys
  rw [e]
  exact q
theorem seq_ix {r : Int} {n : Nat} (h0 : 0 ≤ r) (h1 : r < n) : seqIndex? r n = some r.toNat := (ixN_seq (by
  unfold ixN
  rw [if_pos h0, if_pos h1])).1
end UW
namespace UW
theorem perm_pick {α : Type} : ∀ (ls : List α) (k : Nat) (h : k < ls.length), (ls[k] :: ls.eraseIdx k).Perm ls
  | [], _, h => absurd h (Nat.not_lt_zero _)
  | x :: xs, 0, _ => List.Perm.refl _
  | x :: xs, k + 1, h => by
    have hk : k < xs.length := by simpa using h
    have ih := perm_pick xs k hk
    show (xs[k] :: x :: xs.eraseIdx k).Perm (x :: xs)
    exact (List.Perm.swap _ _ _).trans (List.Perm.cons x ih)
theorem map_pick {α β : Type} (f : α → β) : ∀ (ls : List α) (k : Nat), (ls.map f).eraseIdx k = (ls.eraseIdx k).map f
  | [], _ => rfl
  | x :: xs, 0 => rfl
  | x :: xs, k + 1 => by
    show f x :: (xs.map f).eraseIdx k = f x :: (xs.eraseIdx k).map f
    rw [map_pick f xs k]
end UW
namespace UW
open PySem L2
theorem cutV_to {xs : List V} {n : Nat} : cutV xs none (some (n : Int)) = xs.take n := by
  unfold cutV
  rw [show HT.sIx xs.length xs.length (some (n : Int)) = min n xs.length from HT.sIx_nat xs.length xs.length n, HT.sIx_none]
  show (xs.drop 0).take (min n xs.length - 0) = xs.take n
  rw [List.drop_zero, Nat.sub_zero]
  by_cases h : n ≤ xs.length
  · rw [Nat.min_eq_left h]
  · rw [Nat.min_eq_right (by omega), List.take_length, List.take_of_length_le (by omega)]
theorem menu_ix {zs : List Int} {r : Int} (h0 : 0 ≤ r) (h1 : r < zs.length) : ∃ z, z ∈ zs ∧ atI (zs.map V.int) r = some (.int z) := by
  obtain ⟨j, rfl⟩ := Int.eq_ofNat_of_zero_le h0
  have hj : j < zs.length := by omega
  exact ⟨zs[j], List.getElem_mem hj, atI_nat (by rw [List.getElem?_map, List.getElem?_eq_getElem hj]; rfl)⟩
theorem menu_str {zs : List Str} {r : Int} (h0 : 0 ≤ r) (h1 : r < zs.length) : ∃ z, z ∈ zs ∧ atI (zs.map V.str) r = some (.str z) := by
  obtain ⟨j, rfl⟩ := Int.eq_ofNat_of_zero_le h0
  have hj : j < zs.length := by omega
  exact ⟨zs[j], List.getElem_mem hj, atI_nat (by rw [List.getElem?_map, List.getElem?_eq_getElem hj]; rfl)⟩
/-! ### facts of units -/
/-- what a unit is made of -/
structure UF where
  kind : Str
  needs : List Str
  wants : List Str
  bars : List Str
  after : List Str
  opens : Option Str
  five : Option (Int × Int × Int × Int × Int)
deriving DecidableEq
def UF.named (u : UF) : List Str := u.needs ++ u.wants ++ u.bars ++ u.after ++ u.opens.toList
def optV : Option Str → V
  | none => .non
  | some x => .str x
def FiveAt (H : Hp) : V → Option (Int × Int × Int × Int × Int) → Prop
  | v, none => v = .non
  | v, some (f, m, t, b, s) => ∃ p, v = .ref p ∧ H p = some (.tup [.int f, .int m, .int t, .int b, .int s]) ∧ Five f m t b s
/-- the seven facts stand in a tuple -/
def FactAt (H : Hp) (v : V) (u : UF) : Prop := ∃ (t n w b a : Addr) (g : V), v = .ref t ∧ H t = some (.tup [.str u.kind, .ref n, .ref w, .ref b, .ref a, optV u.opens, g]) ∧
  H n = some (.tup (u.needs.map V.str)) ∧ H w = some (.tup (u.wants.map V.str)) ∧ H b = some (.tup (u.bars.map V.str)) ∧ H a = some (.tup (u.after.map V.str)) ∧ FiveAt H g u.five
def NotTup (H : Hp) (q : Addr) : Prop := ∀ xs, H q ≠ some (.tup xs)
theorem NotTup.ne {H : Hp} {q c : Addr} {xs : List V} (h : NotTup H q) (e : H c = some (.tup xs)) : c ≠ q := fun z => h xs (z ▸ e)
theorem NotTup.lst {H : Hp} {q : Addr} {xs : List V} (h : H q = some (.lst xs)) : NotTup H q := fun ys e => by rw [h] at e; cases e
theorem NotTup.dK {H : Hp} {q : Addr} {kvs : List (Key × V)} (h : H q = some (.dK kvs)) : NotTup H q := fun ys e => by rw [h] at e; cases e
theorem NotTup.none {H : Hp} {q : Addr} (h : H q = Option.none) : NotTup H q := fun ys e => by rw [h] at e; cases e
theorem Bag.notTup {n : Nat} {H : Hp} {p : Addr} (b : Bag n H p) : NotTup H p := by
  obtain ⟨_, _, _, h, _⟩ := b.ex
  exact .lst h
theorem FiveAt.keep {H H' : Hp} {q : Addr} {v : V} {o : Option (Int × Int × Int × Int × Int)} (h : FiveAt H v o) (k : Kp q H H') (n : NotTup H q) : FiveAt H' v o := by
  cases o with
  | none => exact h
  | some o =>
    obtain ⟨f, m, t, b, s⟩ := o
    obtain ⟨p, e, hp, F⟩ := h
    exact ⟨p, e, k _ _ hp (n.ne hp), F⟩
theorem FactAt.keep {H H' : Hp} {q : Addr} {v : V} {u : UF} (h : FactAt H v u) (k : Kp q H H') (n : NotTup H q) : FactAt H' v u := by
  obtain ⟨t, a1, a2, a3, a4, g, e, h0, h1, h2, h3, h4, h5⟩ := h
  exact ⟨t, a1, a2, a3, a4, g, e, k _ _ h0 (n.ne h0), k _ _ h1 (n.ne h1), k _ _ h2 (n.ne h2), k _ _ h3 (n.ne h3), k _ _ h4 (n.ne h4), h5.keep k n⟩
theorem FiveAt.same {H H' : Hp} {v : V} {o : Option (Int × Int × Int × Int × Int)} (h : FiveAt H v o) (s : Same H H') : FiveAt H' v o := by
  cases o with
  | none => exact h
  | some o =>
    obtain ⟨f, m, t, b, s'⟩ := o
    obtain ⟨p, e, hp, F⟩ := h
    exact ⟨p, e, s _ _ hp, F⟩
theorem FactAt.same {H H' : Hp} {v : V} {u : UF} (h : FactAt H v u) (s : Same H H') : FactAt H' v u := by
  obtain ⟨t, a1, a2, a3, a4, g, e, h0, h1, h2, h3, h4, h5⟩ := h
  exact ⟨t, a1, a2, a3, a4, g, e, s _ _ h0, s _ _ h1, s _ _ h2, s _ _ h3, s _ _ h4, h5.same s⟩
/-- a dict of facts by names -/
inductive FactsAt (H : Hp) : List (Key × V) → List (Str × UF) → Prop
  | nil : FactsAt H [] []
  | snoc {kvs : List (Key × V)} {us : List (Str × UF)} {w : Str} {v : V} {u : UF} (h : FactsAt H kvs us) (e : FactAt H v u) : FactsAt H (kvs ++ [(Sum.inr w, v)]) (us ++ [(w, u)])
theorem FactsAt.keep {H H' : Hp} {q : Addr} {kvs : List (Key × V)} {us : List (Str × UF)} (h : FactsAt H kvs us) (k : Kp q H H') (n : NotTup H q) : FactsAt H' kvs us := by
  induction h with
  | nil => exact .nil
  | snoc _ e ih => exact .snoc ih (e.keep k n)
theorem FactsAt.same {H H' : Hp} {kvs : List (Key × V)} {us : List (Str × UF)} (h : FactsAt H kvs us) (s : Same H H') : FactsAt H' kvs us := by
  induction h with
  | nil => exact .nil
  | snoc _ e ih => exact .snoc ih (e.same s)
theorem FactsAt.len {H : Hp} {kvs : List (Key × V)} {us : List (Str × UF)} (h : FactsAt H kvs us) : kvs.length = us.length := by
  induction h with
  | nil => rfl
  | snoc _ _ ih => rw [List.length_append, List.length_append, ih]; rfl
theorem FactsAt.keys {H : Hp} {kvs : List (Key × V)} {us : List (Str × UF)} (h : FactsAt H kvs us) : kvs.map (·.1) = us.map fun p => (Sum.inr p.1 : Key) := by
  induction h with
  | nil => rfl
  | snoc _ _ ih => rw [List.map_append, List.map_append, ih]; rfl
theorem FactsAt.free {H : Hp} {kvs : List (Key × V)} {us : List (Str × UF)} (h : FactsAt H kvs us) {w : Str} (hw : w ∉ us.map (·.1)) : valV kvs (Sum.inr w : Key) = none := by
  induction h with
  | nil => rfl
  | @snoc kvs us w' v u h e ih =>
    rw [List.map_append] at hw
    have h1 : w ∉ us.map (·.1) := fun z => hw (List.mem_append_left _ z)
    have h2 : w ≠ w' := fun z => hw (List.mem_append_right _ (List.mem_singleton.mpr z))
    have q1 := ih h1
    have hv : ∀ kvs : List (Key × V), valV kvs (Sum.inr w : Key) = none → valV (kvs ++ [((Sum.inr w' : Key), v)]) (Sum.inr w : Key) = none := by
      intro kvs
      induction kvs with
      | nil => exact fun _ => valV_neg (fun z => h2 (by cases z; rfl))
      | cons p r ih =>
        intro hn
        by_cases hp : p.1 = (Sum.inr w : Key)
        · rw [valV_pos hp] at hn
          cases hn
        · rw [valV_neg hp] at hn
          rw [List.cons_append, valV_neg hp]
          exact ih hn
    exact hv kvs q1
theorem FactsAt.get {H : Hp} {kvs : List (Key × V)} {us : List (Str × UF)} (h : FactsAt H kvs us) (hn : (us.map (·.1)).Nodup) : ∀ p ∈ us, ∃ v, valV kvs (Sum.inr p.1 : Key) = some v ∧ FactAt H v p.2 := by
  induction h with
  | nil => intro p hp; cases hp
  | @snoc kvs us w v u h e ih =>
    intro p hp
    rw [List.map_append] at hn
    obtain ⟨n1, _, n3⟩ := List.nodup_append.mp hn
    have hw : w ∉ us.map (·.1) := fun z => n3 w z w (List.mem_singleton.mpr rfl) rfl
    have hf := h.free hw
    rw [valV_snoc _ _ _ _ hf]
    rcases List.mem_append.mp hp with hp1 | hp
    · obtain ⟨v', hv', ha⟩ := ih n1 p hp1
      have hne : ¬ (Sum.inr p.1 : Key) = Sum.inr w := fun z => hw (by cases z; exact List.mem_map.mpr ⟨p, hp1, rfl⟩)
      exact ⟨v', by rw [if_neg hne]; exact hv', ha⟩
    · have e' := List.mem_singleton.mp hp
      subst e'
      exact ⟨v, by rw [if_pos rfl], e⟩
/-- what a drawn unit is -/
structure UOk (ns ss : List Str) (w : Str) (u : UF) : Prop where
  kd : u.kind = Str.ofString "work" ∨ u.kind = Str.ofString "goal" ∨ u.kind = Str.ofString "door"
  nN : u.needs.Nodup
  nW : u.wants.Nodup
  nB : u.bars.Nodup
  nA : u.after.Nodup
  lN : u.needs.length ≤ 8
  lW : u.wants.length ≤ 8
  lB : u.bars.length ≤ 8
  lA : u.after.length ≤ 8
  mem : ∀ x ∈ u.named, (x ∈ ns ∨ x ∈ ss) ∧ x ≠ w
  op1 : u.kind = Str.ofString "door" → u.opens ≠ none
  op2 : u.kind ≠ Str.ofString "door" → u.opens = none
end UW

namespace UW
open PySem L2
theorem cutV_bit (ss : List Str) (b : Bool) : ∃ m : Nat, cutV (ss.map V.str) none (some (if b = true then 1 else 0)) = (ss.take m).map V.str := by
  cases b
  · exact ⟨0, by rw [List.map_take]; exact cutV_to (n := 0)⟩
  · exact ⟨1, by rw [List.map_take]; exact cutV_to (n := 1)⟩
theorem cutV_strs (ss : List Str) (n : Nat) : cutV (ss.map V.str) none (some (n : Int)) = (ss.take n).map V.str := by
  rw [List.map_take]
  exact cutV_to
def rcands (x : Str) : List Str := (List.range 26).map fun i => (⟨#[122 - i]⟩ : Str) ++ x
theorem rcands_nodup (x : Str) : (rcands x).Nodup := by
  unfold rcands
  rw [List.nodup_iff_pairwise_ne, List.pairwise_map]
  refine List.Pairwise.imp_of_mem ?_ List.pairwise_lt_range
  intro a b ha hb hab e
  have ha := List.mem_range.mp ha
  have hb := List.mem_range.mp hb
  have h := congrArg (fun z : Str => z.cps.toList) e
  simp only [sign_app_tl] at h
  injection h with h _
  omega
theorem rcand_nm {i : Nat} (hi : i < 26) : Nm ((⟨#[122 - i]⟩ : Str) ++ Str.ofString "zz") := by
  have e : ((⟨#[122 - i]⟩ : Str) ++ Str.ofString "zz").cps.toList = (122 - i) :: [122, 122] := by
    rw [sign_app_tl]
    have : (Str.ofString "zz").cps.toList = [122, 122] := by decide +kernel
    rw [this]
  refine ⟨fun c hc => ?_, ?_, ?_⟩
  · rw [e] at hc
    rcases List.mem_cons.mp hc with rfl | hc
    · omega
    · rcases List.mem_cons.mp hc with rfl | hc
      · omega
      · rw [List.mem_singleton.mp hc]
        omega
  · rw [len_tl', e]
    exact Nat.zero_lt_succ _
  · rw [len_tl', e]
    show 3 ≤ 8
    omega
theorem filter_free {α : Type} [DecidableEq α] {cs ds : List α} (hn : cs.Nodup) (h : ds.length < cs.length) : 0 < (cs.filter fun x => decide (x ∉ ds)).length := by
  obtain ⟨c, hc, hd⟩ := free_in hn h
  exact List.length_pos_of_mem (List.mem_filter.mpr ⟨hc, decide_eq_true hd⟩)
theorem take_filter_snoc {α : Type} (f : α → Bool) {xs : List α} {i : Nat} {x : α} (h : xs[i]? = some x) : (xs.take (i + 1)).filter f = (xs.take i).filter f ++ (if f x = true then [x] else []) := by
  rw [List.take_add_one, h, List.filter_append]
  show _ ++ List.filter f [x] = _
  cases hf : f x
  · rw [List.filter_cons_of_neg (by rw [hf]; exact Bool.false_ne_true), if_neg Bool.false_ne_true]
    rfl
  · rw [List.filter_cons_of_pos hf, if_pos rfl]
    rfl
theorem map_str_get {xs : List Str} {i : Nat} {x : V} (h : (xs.map V.str)[i]? = some x) : ∃ w, xs[i]? = some w ∧ x = .str w := by
  rw [List.getElem?_map] at h
  cases hx : xs[i]? with
  | none => rw [hx] at h; cases h
  | some w => rw [hx] at h; exact ⟨w, rfl, by injection h with h; exact h.symm⟩
end UW

namespace UW
open PySem L2
/-- [z1, ..][take(bag, k)], the menu just laid at l -/
theorem pick_menu {K : PySem.W.Frag} {H : Hp} {p l : Addr} {n : Nat} (zs : List V) {k : Int} {Q : VK} {E' : XK} (B : Bag n H p) (hn : n < 900000000) (hl : H l = none) (hk : k = (zs.length : Int)) (hz0 : 0 < zs.length) (hz1 : zs.length < 1000)
    (q : ∀ (z : V) H', z ∈ zs → Bag (n + 1) H' p → Kp p H H' → Q z H') :
    spTake [.ref p, .int k] (upd H l (.lst zs)) (fun v H2 => rIxL K (.ref l) v H2 Q) E' := by
  subst hk
  generalize hE : upd H l _ = H1
  have k1 := new_at hE
  have s1 := new_same hE hl
  have npl := B.ne hl
  refine take_of (B.same s1) (by omega) (by omega) (by omega) fun r H2 r0 r1 B2 kp2 => ?_
  obtain ⟨j, rfl⟩ := Int.eq_ofNat_of_zero_le r0
  have hj : j < zs.length := by omega
  refine ⟨l, _, _, zs[j], rfl, rfl, SqL.of (kp2 _ _ k1 npl.symm), atI_nat (List.getElem?_eq_getElem hj), ?_⟩
  exact q _ H2 (List.getElem_mem hj) B2 ((Kp.of s1).trans kp2)
theorem mix_ok {ns ss zs : List Str} {w : Str} (hn : ns.Nodup) (hs : ss.Nodup) (hm : ∀ x ∈ ns, Nm x) (ht : ∀ x ∈ ss, Nm x ∧ x ∉ ns) (h1 : ns.length ≤ 20) (h2 : ss.length ≤ 2) (hw : w ∈ ns) (hz : zs.Sublist ss) :
    ((ns.filter fun x => decide (x ≠ w)) ++ zs).Nodup ∧ ((ns.filter fun x => decide (x ≠ w)) ++ zs).length ≤ 100 ∧ (∀ x ∈ (ns.filter fun x => decide (x ≠ w)) ++ zs, Nm x) ∧ ∀ x ∈ (ns.filter fun x => decide (x ≠ w)) ++ zs, (x ∈ ns ∨ x ∈ ss) ∧ x ≠ w := by
  have key : ∀ x ∈ (ns.filter fun x => decide (x ≠ w)) ++ zs, Nm x ∧ (x ∈ ns ∨ x ∈ ss) ∧ x ≠ w := fun x hx => by
    rcases List.mem_append.mp hx with hx | hx
    · obtain ⟨a, b⟩ := List.mem_filter.mp hx
      exact ⟨hm x a, .inl a, of_decide_eq_true b⟩
    · have hx' := hz.subset hx
      exact ⟨(ht x hx').1, .inr hx', fun e => (ht x hx').2 (e ▸ hw)⟩
  refine ⟨List.nodup_append.mpr ⟨List.Nodup.sublist List.filter_sublist hn, List.Nodup.sublist hz hs, fun a ha b hb e => ?_⟩, ?_, fun x hx => (key x hx).1, fun x hx => (key x hx).2⟩
  · exact (ht b (hz.subset hb)).2 (e ▸ (List.mem_filter.mp ha).1)
  · rw [List.length_append]
    have := hz.length_le
    have := List.length_filter_le (fun x => decide (x ≠ w)) ns
    omega
end UW

namespace UW
open PySem L2
theorem tup_same {K : PySem.W.Frag} {H H' : Hp} {a : Addr} {xs : List V} (e : Same H H') (h : SqT K H a xs) : SqT K H' a xs := SqT.ext h e
/-- what isn't a tuple, nor a frozen one -/
def NotTp (H : Hp) (q : Addr) : Prop := ∀ xs, H q ≠ some (.tup xs) ∧ ∀ o, H q ≠ some (.frz o (.tup xs))
theorem NotTp.lst {H : Hp} {q : Addr} {xs : List V} (h : H q = some (.lst xs)) : NotTp H q := fun ys => ⟨(fun e => by rw [h] at e; cases e), (fun o e => by rw [h] at e; cases e)⟩
theorem NotTp.dK {H : Hp} {q : Addr} {xs : List (Key × V)} (h : H q = some (.dK xs)) : NotTp H q := fun ys => ⟨(fun e => by rw [h] at e; cases e), (fun o e => by rw [h] at e; cases e)⟩
theorem NotTp.ins {H : Hp} {q C dx : Addr} {fs : List (Str × V)} (h : H q = some (.ins C dx fs)) : NotTp H q := fun ys => ⟨(fun e => by rw [h] at e; cases e), (fun o e => by rw [h] at e; cases e)⟩
theorem Bag.notTp {n : Nat} {H : Hp} {p : Addr} (b : Bag n H p) : NotTp H p := by
  obtain ⟨_, _, _, h, _⟩ := b.ex
  exact .lst h
theorem Kp.tup {K : PySem.W.Frag} {H H' : Hp} {q a : Addr} {xs : List V} (k : Kp q H H') (n : NotTp H q) (h : SqT K H a xs) : SqT K H' a xs := by
  rcases h with (h | ⟨o, h⟩) | h
  · exact .inl (.inl (k _ _ h fun e => (n xs).1 (e ▸ h)))
  · exact .inl (.inr ⟨o, k _ _ h fun e => (n xs).2 o (e ▸ h)⟩)
  · exact .inr h
end UW

namespace UW
open PySem L2
theorem shaped_strsT {xs : List Str} (h : ∀ x ∈ xs, PyData.strOk x = true) : SeqAt.shaped (.tuple (xs.map PyData.str)) = true := by
  have := shaped_strs h
  unfold SeqAt.shaped at *
  simp only [PyData.canLay0, PyData.depth] at *
  exact this
theorem eqD_strsT {K : PySem.W.Frag} {H : Hp} {a b : Addr} {xs ys : List Str} {Q : VK} (h1 : SqT K H a (xs.map V.str)) (h2 : SqT K H b (ys.map V.str)) (hx : ∀ x ∈ xs, PyData.strOk x = true) (hy : ∀ y ∈ ys, PyData.strOk y = true) (q : Q (.bl (decide (xs = ys))) H) : rEqD K (.ref a) (.ref b) H Q := by
  refine ⟨_, _, .tup h1 (dpAll_strs xs), .tup h2 (dpAll_strs ys), shaped_strsT hx, shaped_strsT hy, ?_⟩
  have e : PyData.eqv (.tuple (xs.map PyData.str)) (.tuple (ys.map PyData.str)) = decide (xs = ys) := by
    simp only [PyData.eqv]
    exact eqvAll_strs xs ys
  rw [e]
  exact q
theorem dec_str {x y : Str} : decide (V.str x = V.str y) = decide (x = y) := decide_eq_decide.mpr ⟨fun e => by cases e; rfl, fun e => by rw [e]⟩
theorem dec_optV {x y : Option Str} : decide (optV x = optV y) = decide (x = y) := decide_eq_decide.mpr ⟨fun e => by
  cases x with
  | none => cases y with
    | none => rfl
    | some y => cases e
  | some x => cases y with
    | none => cases e
    | some y => cases e; rfl, fun e => by rw [e]⟩
theorem scal_optV (x y : Option Str) : scal (optV x) (optV y) = true := by
  cases x <;> cases y <;> rfl
end UW

namespace UW
open PySem L2
theorem neF {x : V} {A B : Prop} (h : B) : if (!decide (x = x)) = true then A else B := by
  rw [decide_eq_true rfl]
  exact iteF h
theorem eqv_strsT (xs : List Str) : PyData.eqv (.tuple (xs.map PyData.str)) (.tuple (xs.map PyData.str)) = true := by
  simp only [PyData.eqv]
  rw [eqvAll_strs]
  exact decide_eq_true rfl
theorem neD_quad {K : PySem.W.Frag} {H : Hp} {l l' a1 a2 a3 a4 b1 b2 b3 b4 : Addr} {x1 x2 x3 x4 : List Str} {Q : VK} (hl : SqL K H l [.ref a1, .ref a2, .ref a3, .ref a4]) (hl' : SqL K H l' [.ref b1, .ref b2, .ref b3, .ref b4])
    (h1 : SqT K H a1 (x1.map V.str)) (h2 : SqT K H a2 (x2.map V.str)) (h3 : SqT K H a3 (x3.map V.str)) (h4 : SqT K H a4 (x4.map V.str)) (g1 : SqT K H b1 (x1.map V.str)) (g2 : SqT K H b2 (x2.map V.str)) (g3 : SqT K H b3 (x3.map V.str)) (g4 : SqT K H b4 (x4.map V.str))
    (k1 : ∀ x ∈ x1, PyData.strOk x = true) (k2 : ∀ x ∈ x2, PyData.strOk x = true) (k3 : ∀ x ∈ x3, PyData.strOk x = true) (k4 : ∀ x ∈ x4, PyData.strOk x = true) (q : Q (.bl false) H) : rNeD K (.ref l) (.ref l') H Q := by
  have sh : SeqAt.shaped (.list [.tuple (x1.map PyData.str), .tuple (x2.map PyData.str), .tuple (x3.map PyData.str), .tuple (x4.map PyData.str)]) = true := by
    refine Bool.and_eq_true_iff.mpr ⟨?_, decide_eq_true ?_⟩
    · simp only [PyData.canLay0, PyData.canLayAll0]
      rw [(layAll_strs k1).1, (layAll_strs k2).1, (layAll_strs k3).1, (layAll_strs k4).1]
      rfl
    · simp only [PyData.depth, PyData.depthAll]
      rw [(layAll_strs k1).2, (layAll_strs k2).2, (layAll_strs k3).2, (layAll_strs k4).2]
      decide
  refine ⟨_, _, .lst hl (.cons (.tup h1 (dpAll_strs x1)) (.cons (.tup h2 (dpAll_strs x2)) (.cons (.tup h3 (dpAll_strs x3)) (.cons (.tup h4 (dpAll_strs x4)) .nil)))), .lst hl' (.cons (.tup g1 (dpAll_strs x1)) (.cons (.tup g2 (dpAll_strs x2)) (.cons (.tup g3 (dpAll_strs x3)) (.cons (.tup g4 (dpAll_strs x4)) .nil)))), sh, sh, ?_⟩
  have e : PyData.eqv (.list [.tuple (x1.map PyData.str), .tuple (x2.map PyData.str), .tuple (x3.map PyData.str), .tuple (x4.map PyData.str)]) (.list [.tuple (x1.map PyData.str), .tuple (x2.map PyData.str), .tuple (x3.map PyData.str), .tuple (x4.map PyData.str)]) = true := by
    rw [show ∀ xs ys, PyData.eqv (.list xs) (.list ys) = PyData.eqvAll xs ys from fun xs ys => by simp only [PyData.eqv]]
    simp only [PyData.eqvAll]
    rw [eqv_strsT, eqv_strsT, eqv_strsT, eqv_strsT]
    rfl
  rw [e]
  exact q
end UW
namespace UW
open PySem PySem.Spec PyProof.Rows L2
section
variable {prog : Program} {w : World} {A : Around} {E : Value → Shared → Prop} {s : Shared}
theorem adjust_back (n : Nat) : Builtin.Slice.sliceAdjust none none (-1) (n : Int) = ((n : Int) - 1, -1) := rfl
theorem places_back (n : Nat) : Builtin.Slice.slicePlaces ((n : Int) - 1) (-1) (-1) = n := by
  unfold Builtin.Slice.slicePlaces
  rw [if_neg (by decide), show (- -1 : Int) = 1 by decide, Int.ediv_one]
  split <;> omega
theorem applied_back {sl : Addr} {vs : Value} {n : Nat} {Q : Int × Int × Nat → Shared → Prop} (hs : s.heap.IsSliceOf sl .none .none vs) (ps : IsPart vs (some (-1))) (h : Q ((n : Int) - 1, -1, n) s) :
    wpAny (model prog w) A (Builtin.Slice.sliceApplied (.ref sl) (pure (n : Int))) Q E s := by
  obtain ⟨os, hos, _, hds⟩ := id hs
  unfold Builtin.Slice.sliceApplied Builtin.Slice.sliceFields
  refine wpAny_bind (wpAny_bind (wpAny_field hos hds (x := .none) rfl (wpAny_bind (wpAny_field hos hds (x := .none) rfl (wpAny_bind (wpAny_field hos hds (x := vs) rfl (wpAny_pure ?_)))))))
  refine wpAny_bind (HT.slicePart_ ps ?_)
  show wpAny _ _ (if ((-1 : Int) == 0) = true then _ else _) _ _ s
  rw [if_neg (by decide)]
  refine wpAny_bind (slicePart_none (wpAny_bind (slicePart_none (wpAny_bind (wpAny_pure ?_)))))
  show wpAny _ _ (pure ((n : Int) - 1, (-1 : Int), Builtin.Slice.slicePlaces ((n : Int) - 1) (-1) (-1))) _ _ s
  rw [places_back]
  exact wpAny_pure h
theorem fm_congr {α β : Type} {f g : α → Option β} : ∀ {l : List α}, (∀ x ∈ l, f x = g x) → l.filterMap f = l.filterMap g
  | [], _ => rfl
  | x :: l, h => by rw [List.filterMap_cons, List.filterMap_cons, h x (List.mem_cons_self ..), fm_congr fun y hy => h y (List.mem_cons_of_mem _ hy)]
theorem pick_back (xs : Array Value) : ((List.range xs.size).filterMap fun (m : Nat) => xs[((xs.size : Int) - 1 + (m : Int) * (-1)).toNat]?).toArray = xs.toList.reverse.toArray := by
  have e : (List.range xs.size).filterMap (fun (m : Nat) => xs[((xs.size : Int) - 1 + (m : Int) * (-1)).toNat]?) = ((List.range xs.size).map fun k => xs.size - 1 - k).filterMap (xs[·]?) := by
    rw [List.filterMap_map]
    refine fm_congr fun m hm => ?_
    have : ((xs.size : Int) - 1 + (m : Int) * (-1)).toNat = xs.size - 1 - m := by
      have := List.mem_range.mp hm
      omega
    show xs[_]? = xs[_]?
    rw [this]
  rw [e, PySem.W.krv_range, List.filterMap_reverse, PySem.W.krv_all]
theorem getItem_back {t sl : Addr} {items : Array Value} {vs : Value} {Q : Value → Shared → Prop} (ht : IsTup s.heap t items) (hs : s.heap.IsSliceOf sl .none .none vs) (ps : IsPart vs (some (-1)))
    (h : Q (.ref s.heap.objs.size) { s with heap := s.heap.push { cls := .type "tuple", data := .seq items.toList.reverse.toArray } }) (hsz : items.size ≤ sizeLine) : wpAny (model prog w) A (getItem (.ref t) (.ref sl)) Q E s := by
  have hok : sizeOk (.seq items.toList.reverse.toArray) := by
    show items.toList.reverse.toArray.size ≤ sizeLine
    rw [List.size_toArray, List.length_reverse, Array.length_toList]
    exact hsz
  have hTs : s.TypeIs (.ref sl) "slice" := by
    obtain ⟨os, hos, hcs, _⟩ := id hs
    exact ⟨os, hos, hcs⟩
  unfold getItem
  try with_reducible refine wpAny_holding ?_
  first | refine wpAny_bind (wpAny_pure ?_) | skip
  refine wpAny_bind (wpAny_sequenceKey ht.typeIs (by decide) ?_)
  refine wpAny_bind (wpAny_callSpecial?_slot (name := Str.ofString "__getitem__") ht.typeIs PyProof.Rows.slot_tuple_getitem
    (wpAny_call_entry PyProof.Rows.slot_tuple_getitem ht.typeIs entry_tuple_getitem ?_ (args_tuple_getitem _ _)))
  show wpAny _ _ (Builtin.Tuple.tupleItemsOf (.ref t) >>= _) _ _ s
  refine wpAny_bind (tupleItemsOf_ ht (wpAny_bind (wpAny_typeOf hTs ?_)))
  rw [if_pos (by decide)]
  refine wpAny_bind (applied_back hs ps ?_)
  show wpAny _ _ (if (((items.size : Int) - 1) == 0 && (-1 : Int) == 1 && items.size == items.size) = true then _ else _) _ _ s
  rw [if_neg (by rw [show ((-1 : Int) == 1) = false from rfl, Bool.and_false, Bool.false_and]; exact Bool.false_ne_true), pick_back]
  exact wpAny_bind (m := Builtin.Tuple.tupleExact _) (wpAny_newObj_type (wpAny_pure ⟨_, rfl, wpAny_pure h⟩) hok)
end
section
variable {X : Cx}
def tRevT (K : PySem.W.Frag) (te : TE) : TE := fun σ H Q => te σ H fun x H1 => ∃ a xs, x = .ref a ∧ SqT K H1 a xs ∧ ∀ p, H1 p = none → Q (.ref p) (upd H1 p (.tup xs.reverse))
theorem pe_revT {e : Expr} {te : TE} {k : Nat} {p1 p2 p3 pos : Pos} (he : PE X e te) : PE X (.Subscript e (.Slice none none (some (.UnaryOp .USub (.Constant (.int 1) k p1) p2)) p3) pos) (tRevT X.K te) := by
  refine ⟨fun pins s σ H Q I h => Subscript_ (thn (he.run pins s σ H _ I h) fun v s1 ⟨x, H1, I1, r1, q1⟩ => ?_)⟩
  obtain ⟨a, xs, ex, hx, q⟩ := q1
  subst ex
  cases r1
  have hst : PO X (some (.UnaryOp .USub (.Constant (.int 1) k p1) p2)) (tPart (tUn (rU fun i => .int (-i)) (tC (.int 1)))) := po_some (pe_un un_neg pe_int)
  refine wpAny_Slice (thn (po_none.run pins s1 σ H1 (fun o H2 => o = none ∧ H2 = H1) I1 ⟨rfl, rfl⟩) fun vl s2 ⟨l, H2, I2, pl, el, e2⟩ => ?_)
  subst el e2
  refine thn (po_none.run pins s2 σ H2 (fun o H3 => o = none ∧ H3 = H2) I2 ⟨rfl, rfl⟩) fun vu s3 ⟨u, H3, I3, pu, eu, e3⟩ => ?_
  subst eu e3
  refine thn (hst.run pins s3 σ H3 (fun o H4 => o = some (-1) ∧ H4 = H3) I3 ⟨1, rfl, -1, rfl, rfl, rfl⟩) fun vs s4 ⟨o, H4, I4, ps, eo, e4⟩ => ?_
  subst eo e4
  cases pl
  cases pu
  have I5 : Inv X pins σ H4 { s4 with heap := s4.heap.push { cls := .type "slice", data := .fields #[.none, .none, vs] } } := I4.kept (t' := s4.toks) fun b ob q => Heap.get?_push_of_some _ q
  obtain ⟨its, r, ht, hz⟩ := I5.tuple hx
  have hlen := r.length
  show wpAny (model X.prog X.w) X.A (subscriptTail e (.Slice none none (some (.UnaryOp .USub (.Constant (.int 1) k p1) p2)) p3) (.ref a) (.ref s4.heap.objs.size)) (EP X pins σ Q) X.xe { s4 with heap := s4.heap.push { cls := .type "slice", data := .fields #[.none, .none, vs] } }
  refine tail_any (ops := [.ref a, .ref s4.heap.objs.size]) ht.typeIs (PyProof.Rows.slot_tuple_getitem.lookup) ?_ (by with_unfolding_all rfl)
  refine getItem_back ht (Heap.IsSliceOf.new _ .none .none vs) ps ?_ (by rw [List.size_toArray]; omega)
  refine ⟨.ref _, _, I5.laid (t' := s4.toks) (o := .tup xs.reverse) (fun b ob q => Heap.get?_push_of_some _ q) (Nat.le_refl _) ?_, rfl, q _ (I5.hok.fresh (Nat.le_refl _))⟩
  exact ⟨by rw [List.length_reverse]; exact hz, _, r.reverse, IsTup.new _ _⟩
end
end UW

namespace UW
open PySem L2
theorem inV_mem (y : Str) (us : List V) : inV (.str y) us = true ↔ V.str y ∈ us := by
  unfold inV
  rw [List.any_eq_true]
  refine ⟨fun ⟨v, hv, e⟩ => ?_, fun h => ⟨_, h, by simp [eqV]⟩⟩
  have : v = .str y := by
    cases v <;> simp [eqV] at e
    rw [e]
  exact this ▸ hv
/-- the candidates that aren't among the given things -/
def frees (x : Str) (us : List V) : List Str := (cands x).filter fun y => !inV (.str y) us
theorem frees_ok {x : Str} {us : List V} {ds : List Str} (h : ∀ y, V.str y ∈ us → y ∈ ds) (hl : ds.length < 26) : ∃ z zs, frees x us = z :: zs ∧ V.str z ∉ us ∧ z ∈ cands x := by
  obtain ⟨c, hc, hd⟩ := free_in (cands_nodup x) (ds := ds) (by unfold cands; rw [List.length_map, List.length_range]; exact hl)
  have hm : c ∈ frees x us := List.mem_filter.mpr ⟨hc, by
    cases he : inV (.str c) us
    · rfl
    · exact absurd (h c ((inV_mem c us).mp he)) hd⟩
  cases hf : frees x us with
  | nil => rw [hf] at hm; cases hm
  | cons z zs =>
    have hz : z ∈ frees x us := by rw [hf]; exact List.mem_cons_self ..
    obtain ⟨h1, h2⟩ := List.mem_filter.mp hz
    refine ⟨z, zs, rfl, fun e => ?_, h1⟩
    rw [(inV_mem z us).mpr e] at h2
    exact Bool.false_ne_true h2
theorem cand_len {x z : Str} (h : z ∈ cands x) : z.length = 1 + x.length := by
  obtain ⟨i, _, rfl⟩ := List.mem_map.mp h
  rw [len_tl', sign_app_tl, List.length_cons, ← len_tl']
  omega
end UW
/-! own layer: objects with their own ==, !=, in, str, repr -/
namespace UO
open PySem PySem.Spec PyProof.Rows L2

section
variable {X : Cx} {CX : CXT} {n : Nat} {f C : Addr} {fd : FuncData} {ps : List Str} {sp : Sp} {E : XK}
/-- a def called from within a builtin -/
theorem call_sub (F : FnOk X.prog X.w X.K X.mg X.base CX n f fd ps sp) (hb : Binds X.K fd ps []) (hx : Passes CX X E) {A : Around} (sb : Sub X n A) {pins : List (Addr × Obj)} {σ : L2.St} {H : Hp} {s : Shared} (I : L2.Inv X pins σ H s)
    {vs : List V} {us : List Value} (r : Vals vs us) {Q : VK} (h : sp vs H Q E) : wpAny (model X.prog X.w) A (call (.ref f) us) (EP X pins σ Q) X.xe s := by
  have e0 : Env0 X.prog X.w X.K X.mg X.base A X.stack s H := by
    have e := I.env0
    exact ⟨by rw [sb.fr]; exact e.frames, e.mod, e.bs, e.bsz, e.funs, e.frf, e.hok, e.bare⟩
  have hl := F.len _ _ _ _ h
  refine wpAny_call (codeAny_mono (F.run A X.stack s H ⟨us, []⟩ us vs _ E sb.room e0 (by
    have := hb s us I.kIn (by rw [List.append_nil, ← r.length]; exact hl)
    rw [List.append_nil] at this
    exact this) r h) fun r s' hq => ?_)
  cases r with
  | error e => exact hx pins σ H s e s' I hq
  | ok fl =>
    cases fl with
    | ret w => exact I.after hq
    | next => exact False.elim hq
    | brk => exact False.elim hq
    | cont => exact False.elim hq

/-- == of two values, by what is asked of them: a truth, and the heap behind it -/
def RcO (X : Cx) (n : Nat) (r : R2) : Prop :=
  ∀ (A : Around) (pins : List (Addr × Obj)) (s : Shared) (σ : L2.St) (H : Hp) (x y : V) (u v : Value) (Q : VK), Sub X n A → L2.Inv X pins σ H s → RelV x u → RelV y v → r x y H Q →
    wpAny (model X.prog X.w) A (richCompare .Eq u v) (fun t s' => ∃ b H', t = .bool b ∧ L2.Inv X pins σ H' s' ∧ Q (.bl b) H') X.xe s
def EqO (X : Cx) (n : Nat) (r : R2) : Prop :=
  ∀ (A : Around) (pins : List (Addr × Obj)) (s : Shared) (σ : L2.St) (H : Hp) (x y : V) (u v : Value) (Q : VK), Sub X n A → L2.Inv X pins σ H s → RelV x u → RelV y v → r x y H Q →
    wpAny (model X.prog X.w) A (eqBool u v) (fun b s' => ∃ H', L2.Inv X pins σ H' s' ∧ Q (.bl b) H') X.xe s
theorem op_rc {r : R2} (h : RcO X n r) (hr : Room n X.A) : OpR X (compareOp .Eq) r := by
  intro pins s σ H x y v u Q I rx ry hq
  show wpAny (model X.prog X.w) X.A (richCompare .Eq v u) (EP X pins σ Q) X.xe s
  refine wpAny_mono (h X.A pins s σ H x y v u Q ⟨hr, rfl⟩ I rx ry hq) (fun t s' z => ?_) fun _ _ x => x
  obtain ⟨b, H', rfl, I', q⟩ := z
  exact ⟨.bl b, H', I', rfl, q⟩
/-- two values that are not one object -/
def apart : V → V → Prop
  | .ref a, .ref b => a ≠ b
  | .ref _, .flt _ => False
  | .flt _, _ => False
  | .ref _, _ => True
  | _, .ref _ => True
  | _, _ => False
theorem eqBool_apart {prog : Program} {w : World} {A : Around} {E : Value → Shared → Prop} {s : Shared} {u v : Value} {x y : V} {Q : Bool → Shared → Prop} (ha : apart x y) (rx : RelV x u) (ry : RelV y v)
    (h : wpAny (model prog w) A (richCompare .Eq u v) (fun t s' => ∃ b, t = .bool b ∧ Q b s') E s) : wpAny (model prog w) A (eqBool u v) Q E s := by
  have fin : ∀ (u v : Value), (u == v) = false → (wpAny (model prog w) A (eqBool u v) Q E s = wpAny (model prog w) A (holding [u, v] (if (u == v) = true then (do rule "eq-bool.same-object"; return true) else (do truthOfDropped (← richCompare .Eq u v)))) Q E s) →
      wpAny (model prog w) A (richCompare .Eq u v) (fun t s' => ∃ b, t = .bool b ∧ Q b s') E s → wpAny (model prog w) A (eqBool u v) Q E s := fun u v k e h => by
    rw [e]
    refine wpAny_holding ?_
    rw [k]
    show wpAny _ _ (do truthOfDropped (← richCompare .Eq u v)) _ _ _
    refine wpAny_bind (wpAny_mono h (fun t s' z => ?_) fun _ _ x => x)
    obtain ⟨b, rfl, q⟩ := z
    exact wpAny_truthy_bool q
  cases x with
  | ref a =>
    cases (show u = Value.ref a from rx)
    cases y with
    | ref b =>
      cases (show v = Value.ref b from ry)
      refine fin _ _ ?_ rfl h
      cases q : (Value.ref a == Value.ref b) with
      | false => rfl
      | true => exact absurd (by have := eq_of_beq q; injection this) ha
    | non => cases (show v = Value.none from ry); exact fin _ _ rfl rfl h
    | bl b => cases (show v = Value.bool b from ry); exact fin _ _ rfl rfl h
    | int i => obtain ⟨t, rfl⟩ := (show ∃ t, v = Value.int i t from ry); exact fin _ _ rfl rfl h
    | str z => obtain ⟨t, rfl⟩ := (show ∃ t, v = Value.str z t from ry); exact fin _ _ rfl rfl h
    | byt z => obtain ⟨t, rfl⟩ := (show ∃ t, v = Value.bytes z t from ry); exact fin _ _ rfl rfl h
    | flt z => exact False.elim ha
    | ty z => cases (show v = Value.type z from ry); exact fin _ _ rfl rfl h
  | _ =>
    cases y with
    | ref b =>
      cases (show v = Value.ref b from ry)
      first
        | exact False.elim ha
        | (cases (show u = Value.none from rx); exact fin _ _ rfl rfl h)
        | (cases (show u = Value.bool _ from rx); exact fin _ _ rfl rfl h)
        | (obtain ⟨t, rfl⟩ := (show ∃ t, u = Value.int _ t from rx); exact fin _ _ rfl rfl h)
        | (obtain ⟨t, rfl⟩ := (show ∃ t, u = Value.str _ t from rx); exact fin _ _ rfl rfl h)
        | (obtain ⟨t, rfl⟩ := (show ∃ t, u = Value.bytes _ t from rx); exact fin _ _ rfl rfl h)
        | (cases (show u = Value.type _ from rx); exact fin _ _ rfl rfl h)
    | _ => exact False.elim ha
theorem RcO.eqO {r : R2} (h : RcO X n r) (ha : ∀ x y H Q, r x y H Q → apart x y) : EqO X n r := by
  intro A pins s σ H x y u v Q sb I rx ry hq
  refine eqBool_apart (ha x y H Q hq) rx ry (wpAny_mono (h A pins s σ H x y u v Q sb I rx ry hq) (fun t s' z => ?_) fun _ _ x => x)
  obtain ⟨b, H', rfl, I', q⟩ := z
  exact ⟨b, rfl, H', I', q⟩

def rAp (r : R2) : R2 := fun x y H Q => apart x y ∧ r x y H Q
theorem RcO.ap {r : R2} (h : RcO X n r) : EqO X n (rAp r) := RcO.eqO (r := rAp r) (fun A pins s σ H x y u v Q sb I rx ry hq => h A pins s σ H x y u v Q sb I rx ry hq.2) fun x y H Q hq => hq.1

/-! ### an instance on the left -/
def rEqO (K : PySem.W.Frag) (C : Addr) (sp : Sp) (E : XK) : R2 := fun x y H Q => ∃ a dx fs t, x = .ref a ∧ H a = some (.ins C dx fs) ∧ TyX K H y t ∧ PySem.W.notFirst K C t = true ∧ sp [x, y] H (fun v H' => ∃ b, v = .bl b ∧ Q (.bl b) H') E
theorem rc_left (F : FnOk X.prog X.w X.K X.mg X.base CX n f fd ps sp) (hs : PySem.W.findIn X.K (.ref C) "__eq__" = some (some (.ref f))) (hf : PySem.W.isFn X.K (.ref f) = true) (hb : Binds X.K fd ps []) (hx : Passes CX X E) : RcO X n (rEqO X.K C sp E) := by
  intro A pins s σ H x y u v Q sb I rx ry hq
  obtain ⟨a, dx, fs, t, rfl, ha, ty, hn, q⟩ := hq
  cases rx
  obtain ⟨mA, J, _⟩ := ins_get I.hok ha
  obtain ⟨od, J, _⟩ := J.look
  obtain ⟨m, hF⟩ := I.fr
  obtain ⟨P, Z, p, _⟩ := kit_of I ry ty
  refine PySem.W.cmp_K (op := .Eq) (tb := t) sb.room.units0 hF I.ok.mod.kin J (Z.ty _ _ I.kIn p) hn hs hf ?_
  have r2 : Vals [V.ref a, y] [Value.ref a, v] := .cons rfl (.cons ry .nil)
  refine wpAny_mono (call_sub F hb hx sb I r2 q) (fun r s' z => ?_) fun _ _ x => x
  obtain ⟨z, H', I', rz, b, rfl, q'⟩ := z
  cases (show r = Value.bool b from rz)
  exact ⟨b, H', rfl, I', q'⟩
end

/-! ### built-in values that decline to be compared with an instance -/
section
open AutoSeq1 (wpAny_loadPart')
open MeetsSeq
theorem int_declines (b : Int) (u : Tok) (l C dx : Addr) : Meets (Builtin.«int.__eq__» ⟨[.int b u, .ref l], []⟩) (fun _ R s => s.heap.get? l = some (PySem.W.instObj C dx) ∧ R (.ok (.ret .notImplemented)) s) :=
  .of_wp fun prog w A R s h => by obtain ⟨hp, g, d, tk, os⟩ := s; obtain ⟨hl, h⟩ := h; unfold PySem.W.instObj at hl; wp_walk using wpAny_loadPart' hl, wpAny_load hl; exact ⟨_, rfl, h⟩
theorem bool_declines (b : Bool) (l C dx : Addr) : Meets (Builtin.«int.__eq__» ⟨[.bool b, .ref l], []⟩) (fun _ R s => s.heap.get? l = some (PySem.W.instObj C dx) ∧ R (.ok (.ret .notImplemented)) s) :=
  .of_wp fun prog w A R s h => by obtain ⟨hp, g, d, tk, os⟩ := s; obtain ⟨hl, h⟩ := h; unfold PySem.W.instObj at hl; wp_walk using wpAny_loadPart' hl, wpAny_load hl; exact ⟨_, rfl, h⟩
theorem str_declines (b : Str) (u : Tok) (l C dx : Addr) : Meets (Builtin.«str.__eq__» ⟨[.str b u, .ref l], []⟩) (fun _ R s => s.heap.get? l = some (PySem.W.instObj C dx) ∧ R (.ok (.ret .notImplemented)) s) :=
  .of_wp fun prog w A R s h => by obtain ⟨hp, g, d, tk, os⟩ := s; obtain ⟨hl, h⟩ := h; unfold PySem.W.instObj at hl; wp_walk using wpAny_loadPart' hl, wpAny_load hl; exact ⟨_, rfl, h⟩
theorem list_declines (p l C dx : Addr) (items : Array Value) (k : Nat) (dd : Option Addr) (sl : Array (Option Value)) : Meets (Builtin.«list.__eq__» ⟨[.ref p, .ref l], []⟩)
    (fun A R s => s.heap.get? p = some { cls := .type "list", dict := dd, data := .seq items k, slots := sl } ∧ s.heap.get? l = some (PySem.W.instObj C dx) ∧ (∀ M : Model, PySem.W.Looks M s.heap (isSubtype (.ref C) (.type "list")) false) ∧ R (.ok (.ret .notImplemented)) s) :=
  .of_wp fun prog w A R s h => by
    obtain ⟨hp, g, d, tk, os⟩ := s
    obtain ⟨h1, hl, hs, h⟩ := h
    unfold PySem.W.instObj at hl
    have f1 : ∀ {A : Around} {E : Value → Shared → Prop} {Q : Bool → Shared → Prop}, Q false ⟨hp, g, d, tk, os⟩ → wpAny (model prog w) A (isSubtype (.ref C) (.type "list")) Q E ⟨hp, g, d, tk, os⟩ := fun q => (hs _).here q
    wp_walk using wpAny_loadPart' h1, wpAny_loadPart' hl, f1
    exact ⟨_, rfl, h⟩
theorem tuple_declines (p l C dx : Addr) (items : Array Value) (k : Nat) (dd : Option Addr) (sl : Array (Option Value)) : Meets (Builtin.«tuple.__eq__» ⟨[.ref p, .ref l], []⟩)
    (fun A R s => s.heap.get? p = some { cls := .type "tuple", dict := dd, data := .seq items k, slots := sl } ∧ s.heap.get? l = some (PySem.W.instObj C dx) ∧ (∀ M : Model, PySem.W.Looks M s.heap (isSubtype (.ref C) (.type "tuple")) false) ∧ R (.ok (.ret .notImplemented)) s) :=
  .of_wp fun prog w A R s h => by
    obtain ⟨hp, g, d, tk, os⟩ := s
    obtain ⟨h1, hl, hs, h⟩ := h
    unfold PySem.W.instObj at hl
    have f1 : ∀ {A : Around} {E : Value → Shared → Prop} {Q : Bool → Shared → Prop}, Q false ⟨hp, g, d, tk, os⟩ → wpAny (model prog w) A (isSubtype (.ref C) (.type "tuple")) Q E ⟨hp, g, d, tk, os⟩ := fun q => (hs _).here q
    wp_walk using wpAny_loadPart' h1, wpAny_loadPart' hl, f1
    exact ⟨_, rfl, h⟩
end

section
variable {X : Cx} {CX : CXT} {n : Nat} {f C : Addr} {fd : FuncData} {ps : List Str} {sp : Sp} {E : XK}
/-- a built-in value on the left that declines, an instance on the right -/
theorem rc_refl {prog : Program} {w : World} {A : Around} {E : Value → Shared → Prop} {s : Shared} {K : PySem.W.Frag} {u : Value} {b C f : Addr} {ob : Obj} {od : Option Obj} {Ta id : String} {Q : Value → Shared → Prop} (hu : A.units < cLine) (XK : K.In s.heap)
    (ha : s.TypeIs u Ta) (h1 : Slot Ta "__eq__" id) (J : PySem.W.InstAt s.heap b ob C od) (hsub : PySem.W.mroIn K C (.type Ta) = some false) (hs : PySem.W.findIn K (.ref C) "__eq__" = some (some (.ref f))) (hf : PySem.W.isFn K (.ref f) = true)
    (hc1 : ∀ Q' : Value → Shared → Prop, Q' .notImplemented s → wpAny (model prog w) A (call (.builtin id) [u, .ref b]) Q' E s)
    (hc2 : wpAny (model prog w) A (call (.ref f) [.ref b, u]) (PySem.W.CmpBack Q) E s) : wpAny (model prog w) A (richCompare .Eq u (.ref b)) Q E s := by
  rcases hi : cmpInfo CmpOp.Eq with ⟨sym, g, r⟩
  have e1 : g = ("__eq__" : Str) := by have := congrArg (fun z => z.2.1) hi; exact this.symm
  have e2 : r = ("__eq__" : Str) := by have := congrArg (fun z => z.2.2) hi; exact this.symm
  subst e1 e2
  simp only [richCompare, hi, ha.oneThing_none]
  refine wpAny_holding ?_
  refine wpAny_bind (wpAny_cRoomFor hu ?_)
  refine wpAny_bind (wpAny_typeOf ha (wpAny_bind (J.type.here ?_)))
  rw [show (Value.type Ta != Value.ref C) = true from rfl]
  simp only [if_true]
  refine wpAny_bind ((PySem.W.looks_mroIn XK hsub).here ?_)
  simp only [Bool.false_eq_true, if_false, Bool.not_false, if_true]
  refine wpAny_bind (m := tryCompare u _ (.ref b)) (wpAny_tryCompare_declines ha h1 (hc1 _ ⟨rfl, ?_⟩))
  have one : wpAny (model prog w) A (tryCompare (.ref b) "__eq__" u) (fun r s' => ∃ v, r = some v ∧ Q v s') E s := by
    unfold tryCompare
    refine wpAny_bind (PySem.W.ifBound_K XK J hs hf (wpAny_mono hc2 (fun v s' hv => ?_) fun _ _ e => e))
    cases v <;> first | exact hv.elim | exact wpAny_pure ⟨_, rfl, hv⟩
  refine wpAny_bind (m := tryCompare (.ref b) _ u) (wpAny_mono one (fun r s' z => ?_) fun _ _ e => e)
  obtain ⟨v, rfl, hq⟩ := z
  exact wpAny_pure hq
/-- the built-in type of a plain thing -/
def plainTy (H : Hp) (K : PySem.W.Frag) : V → String → Prop
  | .non, T => T = "NoneType"
  | .bl _, T => T = "bool"
  | .int _, T => T = "int"
  | .str _, T => T = "str"
  | .ref p, T => (T = "list" ∧ ∃ xs, SqL K H p xs) ∨ (T = "tuple" ∧ ∃ xs, SqT K H p xs)
  | _, _ => False
def rEqR (K : PySem.W.Frag) (C : Addr) (sp : Sp) (E : XK) : R2 := fun x y H Q => ∃ b dy gs T, y = .ref b ∧ H b = some (.ins C dy gs) ∧ plainTy H K x T ∧ PySem.W.mroIn K C (.type T) = some false ∧ sp [y, x] H (fun v H' => ∃ b, v = .bl b ∧ Q (.bl b) H') E
theorem rc_right (F : FnOk X.prog X.w X.K X.mg X.base CX n f fd ps sp) (hs : PySem.W.findIn X.K (.ref C) "__eq__" = some (some (.ref f))) (hf : PySem.W.isFn X.K (.ref f) = true) (hb : Binds X.K fd ps []) (hx : Passes CX X E) : RcO X n (rEqR X.K C sp E) := by
  intro A pins s σ H x y u v Q sb I rx ry hq
  obtain ⟨b, dy, gs, T, rfl, hb', pt, hm, q⟩ := hq
  cases ry
  obtain ⟨mA, J0, _⟩ := ins_get I.hok hb'
  have hobj := J0.obj
  obtain ⟨od, J, _⟩ := J0.look
  have hsub : ∀ M : Model, PySem.W.Looks M s.heap (isSubtype (.ref C) (.type T)) false := fun M => PySem.W.looks_mroIn I.kIn hm
  have r2 : Vals [V.ref b, x] [Value.ref b, u] := .cons rfl (.cons rx .nil)
  have back : wpAny (model X.prog X.w) A (call (.ref f) [.ref b, u]) (PySem.W.CmpBack fun t s' => ∃ b H', t = .bool b ∧ L2.Inv X pins σ H' s' ∧ Q (.bl b) H') X.xe s := by
    refine wpAny_mono (call_sub F hb hx sb I r2 q) (fun r s' z => ?_) fun _ _ x => x
    obtain ⟨z, H', I', rz, k, rfl, q'⟩ := z
    cases (show r = Value.bool k from rz)
    exact ⟨k, H', rfl, I', q'⟩
  cases x with
  | non =>
    cases (show u = Value.none from rx)
    cases (show T = "NoneType" from pt)
    exact rc_refl sb.room.units0 I.kIn rfl PySem.F.slot_NoneType_eq J hm hs hf (fun Q' hq' => call_gives PySem.F.slot_NoneType_eq rfl PySem.F.entry_NoneType_eq (PySem.F.args_NoneType_eq_2 _ _) (SeqAt.NoneType___eq___none_ref_0 b) hq') back
  | bl k =>
    cases (show u = Value.bool k from rx)
    cases (show T = "bool" from pt)
    exact rc_refl sb.room.units0 I.kIn rfl PySem.F.slot_bool_eq J hm hs hf (fun Q' hq' => call_meets PySem.F.slot_bool_eq rfl PySem.F.entry_int_eq (PySem.F.args_int_eq_2 _ _) (bool_declines k b C _) ⟨hobj, hq'⟩) back
  | int i =>
    obtain ⟨t, rfl⟩ := (show ∃ t, u = Value.int i t from rx)
    cases (show T = "int" from pt)
    exact rc_refl sb.room.units0 I.kIn (typeIs_int s i t) PySem.F.slot_int_eq J hm hs hf (fun Q' hq' => call_meets PySem.F.slot_int_eq (typeIs_int s i t) PySem.F.entry_int_eq (PySem.F.args_int_eq_2 _ _) (int_declines i t b C _) ⟨hobj, hq'⟩) back
  | str z =>
    obtain ⟨t, rfl⟩ := (show ∃ t, u = Value.str z t from rx)
    cases (show T = "str" from pt)
    exact rc_refl sb.room.units0 I.kIn (typeIs_str s z t) PySem.F.slot_str_eq J hm hs hf (fun Q' hq' => call_meets PySem.F.slot_str_eq (typeIs_str s z t) PySem.F.entry_str_eq (PySem.F.args_str_eq_2 _ _) (str_declines z t b C _) ⟨hobj, hq'⟩) back
  | ref p =>
    cases (show u = Value.ref p from rx)
    rcases pt with ⟨rfl, xs, hp⟩ | ⟨rfl, xs, hp⟩
    · obtain ⟨its, r, pl, hz⟩ := I.list hp
      obtain ⟨⟨cls, dd, data, sl⟩, ho, hc, k, hd⟩ := pl.isList
      simp only at hc hd
      subst hc hd
      exact rc_refl sb.room.units0 I.kIn ⟨_, ho, rfl⟩ PySem.F.slot_list_eq J hm hs hf (fun Q' hq' => call_meets PySem.F.slot_list_eq ⟨_, ho, rfl⟩ PySem.F.entry_list_eq (PySem.F.args_list_eq_2 _ _) (list_declines p b C _ _ _ _ _) ⟨ho, hobj, hsub, hq'⟩) back
    · obtain ⟨its, r, pl, hz⟩ := I.tuple hp
      obtain ⟨⟨cls, dd, data, sl⟩, ho, hc, k, hd⟩ := pl
      simp only at hc hd
      subst hc hd
      exact rc_refl sb.room.units0 I.kIn ⟨_, ho, rfl⟩ PySem.F.slot_tuple_eq J hm hs hf (fun Q' hq' => call_meets PySem.F.slot_tuple_eq ⟨_, ho, rfl⟩ PySem.F.entry_tuple_eq (PySem.F.args_tuple_eq_2 _ _) (tuple_declines p b C _ _ _ _ _) ⟨ho, hobj, hsub, hq'⟩) back
  | _ => exact False.elim pt
end

/-! ### != by the object's own == -/
section
variable {prog : Program} {w : World} {M : Model} {A : Around} {E : Value → Shared → Prop} {s : Shared} {K : PySem.W.Frag} {x C f : Addr} {ox : Obj} {od : Option Obj}
theorem ifBound_B {name : Str} {id : String} {args : List Value} {Q : Option Value → Shared → Prop} (XK : K.In s.heap) (I : PySem.W.InstAt s.heap x ox C od) (hs : PySem.W.findIn K (.ref C) name = some (some (.builtin id)))
    (hb : ∀ self, bindSpecial (.builtin id) self = pure (.builtin id, [self])) (h : wpAny M A (call (.builtin id) (.ref x :: args)) (fun v => Q (some v)) E s) : wpAny M A (callSpecialIfBound? (.ref x) name args) Q E s := by
  simp only [callSpecialIfBound?, bindSpecialIfBound?]
  refine wpAny_holding (wpAny_bind (wpAny_bind (wpAny_bind (I.type.here ((PySem.W.looks_findIn XK hs).here ?_)))))
  refine wpAny_bind (wpAny_askSetting (wpAny_ite ?_))
  have fin : wpAny M A (call (.builtin id) ([.ref x] ++ args) >>= fun v => pure (some v)) Q E s := wpAny_bind (wpAny_mono h (fun v s' h' => wpAny_pure h') fun _ _ h' => h')
  split
  · exact wpAny_bind ((PySem.W.Looks.of_pure (hb _)).here (wpAny_pure (by exact fin)))
  · exact wpAny_tryCatch (wpAny_bind ((PySem.W.Looks.of_pure (hb _)).here (wpAny_pure (by exact fin))))
open Builtin in
theorem call_objNe {b : Value} {Q : Value → Shared → Prop} (hu : A.in1.units < cLine) (XK : K.In s.heap) (I : PySem.W.InstAt s.heap x ox C od) (hm : PySem.W.mroIn K C (.type "object") = some true) (hs : PySem.W.findIn K (.ref C) "__eq__" = some (some (.ref f))) (hf : PySem.W.isFn K (.ref f) = true)
    (h : wpAny (model prog w) A.in1 (call (.ref f) [.ref x, b]) (fun v s' => ∃ k, v = .bool k ∧ Q (.bool (!k)) s') E s) : wpAny (model prog w) A (call (.builtin "object.__ne__") [.ref x, b]) Q E s := by
  refine wpAny_call (codeAny_call_builtin PySem.F.cmp_object.ne.plain PySem.F.cmpEntry_ne (PySem.W.check_slot (i := "object.__ne__") (owner := "object") (n := "__ne__") (by decide +kernel) (by decide +kernel) (I.type.andThen (PySem.W.looks_mroIn XK hm)) (PySem.F.cmpArgs_ne _ _) ?_))
  unfold Builtin.«object.__ne__»
  repeat (first
    | with_reducible refine wpAny_cRoomFor hu ?_
    | (refine wpAny_bind (m := callSpecialIfBound? (.ref x) (Str.ofString "__eq__") [b])
        (PySem.W.ifBound_K XK I hs hf (wpAny_mono h (fun r s' hr => by
          obtain ⟨k, rfl, hq⟩ := hr
          repeat (first | exact hq | exact wpAny_pure hq | exact wpAny_truthy_bool hq | (refine wpAny_bind (m := truthy (.bool _)) (wpAny_truthy_bool ?_)) | wp_step)) fun _ _ e => e)))
    | wp_step)
theorem ne_K {L : Addr} {h₀ : Heap} {m : Str → Option Value} {b tb : Value} {Q : Value → Shared → Prop} (hu : A.in1.units < cLine) (hu0 : A.units < cLine) (XK : K.In s.heap) (I : PySem.W.InstAt s.heap x ox C od) (hb : PySem.W.Looks (model prog w) s.heap (typeOf b) tb) (hn : PySem.W.notFirst K C tb = true)
    (hne : PySem.W.findIn K (.ref C) "__ne__" = some (some (.builtin "object.__ne__"))) (hm : PySem.W.mroIn K C (.type "object") = some true) (hs : PySem.W.findIn K (.ref C) "__eq__" = some (some (.ref f))) (hf : PySem.W.isFn K (.ref f) = true)
    (h : wpAny (model prog w) A.in1 (call (.ref f) [.ref x, b]) (fun v s' => ∃ k, v = .bool k ∧ Q (.bool (!k)) s') E s) : wpAny (model prog w) A (richCompare .NotEq (.ref x) b) Q E s := by
  have one : wpAny (model prog w) A (tryCompare (.ref x) "__ne__" b) (fun r s' => ∃ v, r = some v ∧ Q v s') E s := by
    unfold tryCompare
    refine wpAny_bind (ifBound_B XK I hne PySem.F.cmp_object.ne.bind (call_objNe hu XK I hm hs hf (wpAny_mono h (fun v s' hv => ?_) fun _ _ e => e)))
    obtain ⟨k, rfl, hq⟩ := hv
    exact ⟨k, rfl, wpAny_pure ⟨_, rfl, hq⟩⟩
  unfold richCompare
  simp only [oneThing_ref]
  refine wpAny_holding (wpAny_bind (wpAny_cRoomFor hu0 ?_))
  refine wpAny_bind (I.type.here (wpAny_bind (hb.here ?_)))
  split
  · rename_i q
    have e : PySem.W.subIn K tb (.ref C) = some false := by
      rcases Bool.or_eq_true_iff.mp hn with e | e
      · rw [beq_iff_eq.mp e] at q; simp at q
      · exact beq_iff_eq.mp e
    refine wpAny_bind ((PySem.W.looks_subIn XK e).here ?_)
    simp only [Bool.false_eq_true, if_false]
    refine wpAny_bind (wpAny_mono one (fun r s' z => ?_) fun _ _ e => e)
    obtain ⟨v, rfl, hq⟩ := z
    exact wpAny_pure hq
  · refine wpAny_bind (wpAny_pure ?_)
    simp only [Bool.false_eq_true, if_false]
    refine wpAny_bind (wpAny_mono one (fun r s' z => ?_) fun _ _ e => e)
    obtain ⟨v, rfl, hq⟩ := z
    exact wpAny_pure hq
end
section
variable {X : Cx} {CX : CXT} {n : Nat} {f C : Addr} {fd : FuncData} {ps : List Str} {sp : Sp} {E : XK}
def rNeO (K : PySem.W.Frag) (C : Addr) (sp : Sp) (E : XK) : R2 := fun x y H Q => ∃ a dx fs t, x = .ref a ∧ H a = some (.ins C dx fs) ∧ TyX K H y t ∧ PySem.W.notFirst K C t = true ∧ sp [x, y] H (fun v H' => ∃ b, v = .bl b ∧ Q (.bl (!b)) H') E
theorem op_neO (F : FnOk X.prog X.w X.K X.mg X.base CX n f fd ps sp) (hs : PySem.W.findIn X.K (.ref C) "__eq__" = some (some (.ref f))) (hf : PySem.W.isFn X.K (.ref f) = true) (hb : Binds X.K fd ps []) (hx : Passes CX X E)
    (hne : PySem.W.findIn X.K (.ref C) "__ne__" = some (some (.builtin "object.__ne__"))) (hm : PySem.W.mroIn X.K C (.type "object") = some true) (hr : Room (n + 1) X.A) : OpR X (compareOp .NotEq) (rNeO X.K C sp E) := by
  intro pins s σ H x y u v Q I rx ry hq
  obtain ⟨a, dx, fs, t, rfl, ha, ty, hn, q⟩ := hq
  cases rx
  obtain ⟨mA, J, _⟩ := ins_get I.hok ha
  obtain ⟨od, J, _⟩ := J.look
  obtain ⟨P, Z, p, _⟩ := kit_of I ry ty
  have sb : Sub X (n + 1) X.A := ⟨hr, rfl⟩
  show wpAny (model X.prog X.w) X.A (richCompare .NotEq (.ref a) v) (EP X pins σ Q) X.xe s
  have r2 : Vals [V.ref a, y] [Value.ref a, v] := .cons rfl (.cons ry .nil)
  refine ne_K (L := 0) (h₀ := s.heap) (m := fun _ => none) sb.in1.room.units0 sb.room.units0 I.kIn J (Z.ty _ _ I.kIn p) hn hne hm hs hf ?_
  refine wpAny_mono (call_sub F hb hx sb.in1 I r2 q) (fun r s' z => ?_) fun _ _ x => x
  obtain ⟨z, H', I', rz, b, rfl, q'⟩ := z
  cases (show r = Value.bool b from rz)
  exact ⟨b, rfl, .bl (!b), H', I', rfl, q'⟩
end

/-! ### x in [z], [x] == [y], (c, x) == (c, y), by ==  -/
section
open AutoSeq1 (wpAny_loadPart')
open MeetsSeq MeetsSeq2 MeetsSeq3 SeqRoads2 SeqAt
variable {prog : Program} {w : World} {A : Around} {R : Result → Shared → Prop}
/-- the list at l holds one thing -/
def One (s : Shared) (l : Addr) (z : Value) : Prop := ∃ (items : Array Value) (n : Nat), s.heap.get? l = some { cls := .type "list", data := .seq items n } ∧ items[(0 : Int).toNat]? = some z ∧ items[((0 : Int) + 1).toNat]? = none ∧ items.size = 1
theorem One.of {s : Shared} {l : Addr} {z : Value} {n : Nat} (h : s.heap.get? l = some { cls := .type "list", data := .seq #[z] n }) : One s l z := ⟨#[z], n, h, rfl, rfl, rfl⟩
theorem contains_loop1 (l : Addr) (x z : Value) {s : Shared} (h0 : One s l z) (h : R (.ok (.ret (.bool false))) s) :
    wpAny (model prog w) A.in1 (Builtin.«list.__contains__.loop» ⟨[.ref l, x, rawInt ((0 : Int) + 1)], []⟩) (GQ.FinOf prog w A R) (fun e s' => R (.error e) s') s := by
  obtain ⟨items, n, hl, e0, e1, _⟩ := h0
  obtain ⟨hp, g, d, tk, os⟩ := s
  wp_walk using wpAny_loadPart' hl
  rw [e1]
  wp_walk
  exact h
theorem contains1 (l : Addr) (x z : Value) {s : Shared} (h0 : One s l z)
    (he : wpAny (model prog w) A.in1 (eqBool z x) (fun b s' => (∃ z', One s' l z') ∧ R (.ok (.ret (.bool b))) s') (fun e s' => R (.error e) s') s) :
    wpAny (model prog w) A.in1 (Builtin.«list.__contains__» ⟨[.ref l, x], []⟩) (GQ.FinOf prog w A R) (fun e s' => R (.error e) s') s := by
  have step : wpAny (model prog w) A.in1 (Builtin.«list.__contains__.loop» ⟨[.ref l, x, rawInt (0 : Int)], []⟩) (GQ.FinOf prog w A R) (fun e s' => R (.error e) s') s := by
    obtain ⟨items, n, hl, e0, e1, _⟩ := h0
    obtain ⟨hp, g, d, tk, os⟩ := s
    wp_walk using wpAny_loadPart' hl
    rw [e0]
    refine wpAny_bind (wpAny_mono he (fun b s2 h2 => ?_) fun _ _ x => x)
    obtain ⟨⟨z', p2⟩, q2⟩ := h2
    cases b with
    | true =>
      wp_walk
      exact q2
    | false =>
      have nx := contains_loop1 (A := A) (w := w) (prog := prog) (R := R) l x z' p2 q2
      obtain ⟨hp2, g2, d2, tk2, os2⟩ := s2
      wp_walk
      exact ⟨plainId_quiet plain_contains_loop _, codeAny_builtin entry_contains_loop (by
        rw [Around.under_plainId plain_contains_loop _]
        exact nx)⟩
  obtain ⟨items, n, hl, e0, e1, _⟩ := h0
  obtain ⟨hp, g, d, tk, os⟩ := s
  wp_walk using wpAny_loadPart' hl
  exact ⟨plainId_quiet plain_contains_loop _, codeAny_builtin entry_contains_loop (by
    rw [Around.under_plainId plain_contains_loop _]
    exact step)⟩
theorem eq_list1_loop (l b : Addr) (x y : Value) {s : Shared} (h0 : One s l x ∧ One s b y) (h : R (.ok (.ret (.bool true))) s) :
    wpAny (model prog w) A.in1 (Builtin.«list.__eq__.loop» ⟨[.ref l, .ref b, rawInt ((0 : Int) + 1), rawInt 2], []⟩) (GQ.FinOf prog w A R) (fun e s' => R (.error e) s') s := by
  obtain ⟨⟨items, n, hl, e0, e1, z1⟩, items2, n2, hb, f0, f1, z2⟩ := h0
  obtain ⟨hp, g, d, tk, os⟩ := s
  wp_walk using wpAny_loadPart' hl, wpAny_loadPart' hb
  rw [e1, f1]
  wp_walk using wpAny_loadPart' hl, wpAny_loadPart' hb
  show R (.ok (.ret (.bool (items.size == items2.size)))) _
  rw [z1, z2]
  exact h
theorem eq_list1 (l b : Addr) (x y : Value) {s : Shared} (h0 : One s l x ∧ One s b y)
    (he : wpAny (model prog w) A.in1 (eqBool x y) (fun k s' => (∃ x' y', One s' l x' ∧ One s' b y') ∧ R (.ok (.ret (.bool k))) s') (fun e s' => R (.error e) s') s) :
    wpAny (model prog w) A.in1 (Builtin.«list.__eq__» ⟨[.ref l, .ref b], []⟩) (GQ.FinOf prog w A R) (fun e s' => R (.error e) s') s := by
  have step : wpAny (model prog w) A.in1 (Builtin.«list.__eq__.loop» ⟨[.ref l, .ref b, rawInt (0 : Int), rawInt 2], []⟩) (GQ.FinOf prog w A R) (fun e s' => R (.error e) s') s := by
    obtain ⟨⟨items, n, hl, e0, e1, z1⟩, items2, n2, hb, f0, f1, z2⟩ := h0
    obtain ⟨hp, g, d, tk, os⟩ := s
    wp_walk using wpAny_loadPart' hl, wpAny_loadPart' hb
    rw [e0, f0]
    refine wpAny_bind (wpAny_mono he (fun k s2 h2 => ?_) fun _ _ x => x)
    obtain ⟨⟨x', y', p2⟩, q2⟩ := h2
    cases k with
    | true =>
      have nx := eq_list1_loop (A := A) (w := w) (prog := prog) (R := R) l b x' y' p2 q2
      obtain ⟨hp2, g2, d2, tk2, os2⟩ := s2
      wp_walk
      exact ⟨plainId_quiet plain_eq_loop _, codeAny_builtin entry_eq_loop (by
        rw [Around.under_plainId plain_eq_loop _]
        exact nx)⟩
    | false =>
      obtain ⟨⟨items, n, hl, e0, e1, z1⟩, items2, n2, hb, f0, f1, z2⟩ := p2
      obtain ⟨hp2, g2, d2, tk2, os2⟩ := s2
      wp_walk using wpAny_loadPart' hl, wpAny_loadPart' hb
      rw [e0, f0]
      wp_walk
      exact q2
  obtain ⟨⟨items, n, hl, e0, e1, z1⟩, items2, n2, hb, f0, f1, z2⟩ := h0
  obtain ⟨hp, g, d, tk, os⟩ := s
  have f3 := AutoSeq1.sub_list_list
  have hne : ¬ (items.size != items2.size) = true := by simp [z1, z2]
  wp_walk using wpAny_loadPart' hl, wpAny_loadPart' hb
  exact ⟨plainId_quiet plain_eq_loop _, codeAny_builtin entry_eq_loop (by
    rw [Around.under_plainId plain_eq_loop _]
    exact step)⟩
/-- tuples of any length: each two of items compared in turn, to the first that differ; e tells how each comes out -/
theorem tuple_eqB (l b : Addr) (items items2 : Array Value) (n n2 : Nat) (dd dd2 : Option Addr) (sl sl2 : Array (Option Value)) (hsz : items.size = items2.size) (I : Nat → Shared → Prop) (F : Shared → Prop)
    (turn : ∀ i (h1 : i < items.size) (h2 : i < items2.size) s, I i s → wpAny (model prog w) A.in1 (eqBool items[i] items2[i]) (fun r s' => if r = true then I (i + 1) s' else F s') (fun e s' => R (.error e) s') s)
    (fin : ∀ s, I items.size s → R (.ok (.ret (.bool true))) s) (bad : ∀ s, F s → R (.ok (.ret (.bool false))) s) {s : Shared} (hl1 : s.heap.get? l = some { cls := .type "tuple", dict := dd, data := .seq items n, slots := sl }) (hb1 : s.heap.get? b = some { cls := .type "tuple", dict := dd2, data := .seq items2 n2, slots := sl2 }) (h : I 0 s) :
    wpAny (model prog w) A.in1 (Builtin.«tuple.__eq__» ⟨[.ref l, .ref b], []⟩) (GQ.FinOf prog w A R) (fun e s' => R (.error e) s') s := by
  have f2 := AutoSeq1.sub_tuple_tuple
  have hZ : (items.toList.zip items2.toList).length = items.size := by simp [hsz]
  have h0 := h
  obtain ⟨hp, g, d, tk, os⟩ := s
  wp_walk using wpAny_loadPart' hl1, wpAny_loadPart' hb1, wpAny_forIn_list _ (fun rest b s' => b.1 = none ∧ ∃ i, rest = (items.toList.zip items2.toList).drop i ∧ i ≤ items.size ∧ I i s') _
  case turn =>
    rintro ⟨y, x⟩ rest b s' ⟨hb', i, hz, hi, hI⟩
    have hlt : i < (items.toList.zip items2.toList).length := by
      rcases Nat.lt_or_ge i (items.toList.zip items2.toList).length with h' | h'
      · exact h'
      · rw [List.drop_of_length_le h'] at hz; cases hz
    have h1 : i < items.size := hZ ▸ hlt
    have h2 : i < items2.size := hsz ▸ h1
    rw [List.drop_eq_getElem_cons hlt] at hz
    injection hz with hyx hrest
    have hy : y = items[i] := by have := congrArg Prod.fst hyx; simpa using this
    have hx : x = items2[i] := by have := congrArg Prod.snd hyx; simpa using this
    subst hy hx
    refine wpAny_bind (wpAny_mono (turn i h1 h2 s' hI) (fun r s2 q2 => ?_) fun _ _ x => x)
    cases r with
    | true =>
      wp_walk
      exact ⟨rfl, i + 1, hrest, h1, q2⟩
    | false =>
      wp_walk
      exact bad _ q2
  case fin =>
    rintro ⟨b1, b2⟩ s' ⟨hb', i, hz, hi, hI⟩
    simp only at hb'
    subst hb'
    have hge : items.size ≤ i := by
      rcases Nat.lt_or_ge i (items.toList.zip items2.toList).length with h' | h'
      · rw [List.drop_eq_getElem_cons h'] at hz; cases hz
      · exact hZ ▸ h'
    have hi' : i = items.size := by omega
    have hR : R (.ok (.ret (.bool true))) s' := fin s' (hi' ▸ hI)
    wp_walk
    simpa [Builtin.Tuple.tupleCompareSizes, hsz] using hR
  case h =>
    exact ⟨rfl, 0, rfl, Nat.zero_le _, h0⟩
end
section
variable {prog : Program} {w : World} {A : Around} {R : Result → Shared → Prop}
theorem tuple_eq2 (l b : Addr) (c1 c2 x y : Value) (n n2 : Nat) (dd dd2 : Option Addr) (sl sl2 : Array (Option Value)) {s : Shared} (Tr Fa : Shared → Prop)
    (t0 : wpAny (model prog w) A.in1 (eqBool c1 c2) (fun r s' => r = true ∧ s' = s) (fun e s' => R (.error e) s') s)
    (t1 : wpAny (model prog w) A.in1 (eqBool x y) (fun r s' => if r = true then Tr s' else Fa s') (fun e s' => R (.error e) s') s)
    (fin : ∀ s, Tr s → R (.ok (.ret (.bool true))) s) (bad : ∀ s, Fa s → R (.ok (.ret (.bool false))) s) (hl1 : s.heap.get? l = some { cls := .type "tuple", dict := dd, data := .seq #[c1, x] n, slots := sl }) (hb1 : s.heap.get? b = some { cls := .type "tuple", dict := dd2, data := .seq #[c2, y] n2, slots := sl2 }) :
    wpAny (model prog w) A.in1 (Builtin.«tuple.__eq__» ⟨[.ref l, .ref b], []⟩) (GQ.FinOf prog w A R) (fun e s' => R (.error e) s') s := by
  refine tuple_eqB l b #[c1, x] #[c2, y] n n2 dd dd2 sl sl2 rfl (fun i s' => (i = 0 ∧ s' = s) ∨ (i = 1 ∧ s' = s) ∨ (i = 2 ∧ Tr s')) Fa (fun i h1 h2 s' hI => ?_) (fun s' hI => ?_) bad hl1 hb1 (.inl ⟨rfl, rfl⟩)
  · rcases hI with ⟨rfl, rfl⟩ | ⟨rfl, rfl⟩ | ⟨rfl, _⟩
    · show wpAny _ _ (eqBool c1 c2) _ _ _
      refine wpAny_mono t0 (fun r s2 z => ?_) fun _ _ x => x
      obtain ⟨rfl, rfl⟩ := z
      rw [if_pos rfl]
      exact .inr (.inl ⟨rfl, rfl⟩)
    · show wpAny _ _ (eqBool x y) _ _ _
      refine wpAny_mono t1 (fun r s2 z => ?_) fun _ _ x => x
      cases r with
      | true =>
        rw [if_pos rfl] at z ⊢
        exact .inr (.inr ⟨rfl, z⟩)
      | false =>
        rw [if_neg Bool.false_ne_true] at z ⊢
        exact z
    · exact absurd h1 (by simp)
  · rcases hI with ⟨e, _⟩ | ⟨e, _⟩ | ⟨_, h⟩
    · exact absurd e (by simp)
    · exact absurd e (by simp)
    · exact fin s' h
end
/-! ### the operators -/
section
open SeqRoads2
variable {X : Cx} {n : Nat} {r : R2}
theorem one_of {pins : List (Addr × Obj)} {σ : L2.St} {H : Hp} {s : Shared} {a : Addr} {x : V} (I : L2.Inv X pins σ H s) (h : H a = some (.lst [x])) : ∃ u, RelV x u ∧ One s a u := by
  obtain ⟨z, its, k, rv, e⟩ := I.hok a _ h
  cases rv with
  | cons r1 r2 =>
    cases r2
    exact ⟨_, r1, One.of e⟩
theorem one_eq {s : Shared} {a : Addr} {u v : Value} (h1 : One s a u) (h2 : One s a v) : u = v := by
  obtain ⟨i1, n1, g1, e1, _, _⟩ := h1
  obtain ⟨i2, n2, g2, e2, _, _⟩ := h2
  rw [g1] at g2
  cases g2
  rw [e1] at e2
  exact Option.some.inj e2
/-- x in [z] -/
def rIn1 (r : R2) : R2 := fun x y H Q => ∃ p z, y = .ref p ∧ H p = some (.lst [z]) ∧ r z x H (fun t H' => Ext H H' ∧ Q t H')
theorem op_in1 (h : EqO X n r) (hr : Room (n + 1) X.A) : OpR X (compareOp .In) (rIn1 r) := by
  intro pins s σ H x y v u Q I rx ry hq
  obtain ⟨p, z, rfl, hp, q⟩ := hq
  cases ry
  have sb : Sub X (n + 1) X.A := ⟨hr, rfl⟩
  obtain ⟨zu, rz, o1⟩ := one_of I hp
  obtain ⟨items, k, hl, _⟩ := id o1
  show wpAny _ X.A (do return .bool (← contains (.ref p) v)) (EP X pins σ Q) X.xe s
  refine wpAny_bind (wpAny_contains_slot ⟨_, hl, rfl⟩ PySem.F.slot_list_contains (wpAny_mono (GQ.call_here (A := X.A) (E := X.xe) (Q := fun t s' => ∃ b H', t = .bool b ∧ L2.Inv X pins σ H' s' ∧ Q (.bl b) H') PySem.F.slot_list_contains ⟨_, hl, rfl⟩ PySem.F.entry_list_contains (PySem.F.args_list_contains_2 _ _) ?_) (fun t s' hv => ?_) fun _ _ e => e))
  · refine contains1 p v zu o1 ?_
    refine wpAny_mono (h X.A.in1 pins s σ H z x zu v _ sb.in1 I rz rx q) (fun b s' hb => ?_) fun _ _ x => x
    obtain ⟨H', I', ex, q'⟩ := hb
    obtain ⟨zu', rz', o2⟩ := one_of I' (ex _ _ hp)
    exact ⟨⟨zu', o2⟩, b, H', rfl, I', q'⟩
  · obtain ⟨b, H', rfl, I', q'⟩ := hv
    exact wpAny_truthy_bool (wpAny_pure ⟨.bl b, H', I', rfl, q'⟩)
/-- [x] == [y] -/
def rEqL1 (r : R2) : R2 := fun u v H Q => ∃ a b x y, u = .ref a ∧ v = .ref b ∧ H a = some (.lst [x]) ∧ H b = some (.lst [y]) ∧ r x y H (fun t H' => Ext H H' ∧ Q t H')
theorem rc_list1 (h : EqO X n r) : RcO X (n + 1) (rEqL1 r) := by
  intro A pins s σ H x y u v Q sb I rx ry hq
  obtain ⟨a, b, x1, y1, rfl, rfl, ha, hb, q⟩ := hq
  cases rx
  cases ry
  obtain ⟨xu, rxu, o1⟩ := one_of I ha
  obtain ⟨yu, ryu, o2⟩ := one_of I hb
  obtain ⟨items, k, hl, _⟩ := id o1
  obtain ⟨items2, k2, hl2, _⟩ := id o2
  refine wpAny_richCompare_same_room (op := .Eq) ⟨_, hl, rfl⟩ ⟨_, hl2, rfl⟩ PySem.F.slot_list_eq (GQ.call_here PySem.F.slot_list_eq ⟨_, hl, rfl⟩ PySem.F.entry_list_eq (PySem.F.args_list_eq_2 _ _) ?_) sb.room.units0
  refine eq_list1 (R := wants (fun v s' => v ≠ .notImplemented ∧ ∃ b H', v = .bool b ∧ L2.Inv X pins σ H' s' ∧ Q (.bl b) H') X.xe) a b xu yu ⟨o1, o2⟩ ?_
  refine wpAny_mono (h A.in1 pins s σ H x1 y1 xu yu _ sb.in1 I rxu ryu q) (fun k s' hk => ?_) fun _ _ x => x
  obtain ⟨H', I', ex, q'⟩ := hk
  obtain ⟨xu', _, p1⟩ := one_of I' (ex _ _ ha)
  obtain ⟨yu', _, p2⟩ := one_of I' (ex _ _ hb)
  exact ⟨⟨xu', yu', p1, p2⟩, (fun z => nomatch z), k, H', rfl, I', q'⟩
/-- (c, x) == (d, y), c and d ints that are the same -/
def rEqT2 (K : PySem.W.Frag) (r : R2) : R2 := fun u v H Q => ∃ a b c x y, u = .ref a ∧ v = .ref b ∧ SqT K H a [.int c, x] ∧ SqT K H b [.int c, y] ∧ r x y H Q
theorem rc_tup2 (h : EqO X n r) : RcO X (n + 1) (rEqT2 X.K r) := by
  intro A pins s σ H x y u v Q sb I rx ry hq
  obtain ⟨a, b, c, x1, y1, rfl, rfl, ha, hb, q⟩ := hq
  cases rx
  cases ry
  obtain ⟨its, rv, pl, _⟩ := I.tuple ha
  obtain ⟨its2, rv2, pl2, _⟩ := I.tuple hb
  obtain ⟨⟨cls, dd, data, sl⟩, ho, hc, k, hd⟩ := id pl
  obtain ⟨⟨cls2, dd2, data2, sl2⟩, ho2, hc2, k2, hd2⟩ := id pl2
  simp only at hc hd hc2 hd2
  subst hc hd hc2 hd2
  cases rv with
  | cons r1 rv =>
  cases rv with
  | cons r2 rv =>
  cases rv
  cases rv2 with
  | cons q1 rv2 =>
  cases rv2 with
  | cons q2 rv2 =>
  cases rv2
  obtain ⟨t1, rfl⟩ := r1
  obtain ⟨t2, rfl⟩ := q1
  rename_i xu yu
  refine wpAny_richCompare_same_room (op := .Eq) ⟨_, ho, rfl⟩ ⟨_, ho2, rfl⟩ PySem.F.slot_tuple_eq (GQ.call_here PySem.F.slot_tuple_eq ⟨_, ho, rfl⟩ PySem.F.entry_tuple_eq (PySem.F.args_tuple_eq_2 _ _) ?_) sb.room.units0
  refine tuple_eq2 (R := wants (fun v s' => v ≠ .notImplemented ∧ ∃ b H', v = .bool b ∧ L2.Inv X pins σ H' s' ∧ Q (.bl b) H') X.xe) a b (.int c t1) (.int c t2) xu yu k k2 dd dd2 sl sl2
    (fun s' => ∃ H', L2.Inv X pins σ H' s' ∧ Q (.bl true) H') (fun s' => ∃ H', L2.Inv X pins σ H' s' ∧ Q (.bl false) H') ?_ ?_ ?_ ?_ ho ho2
  · exact (SeqAt.EqAt.int_int c t1 c t2) X.prog X.w _ _ ⟨beq_self_eq_true c, rfl⟩
  · refine wpAny_mono (h A.in1 pins s σ H x1 y1 xu yu _ sb.in1 I r2 q2 q) (fun k s2 hk => ?_) fun _ _ x => x
    obtain ⟨H', I', q'⟩ := hk
    cases k with
    | true => exact ⟨H', I', q'⟩
    | false => exact ⟨H', I', q'⟩
  · rintro s' ⟨H', I', q'⟩
    exact ⟨(fun z => nomatch z), true, H', rfl, I', q'⟩
  · rintro s' ⟨H', I', q'⟩
    exact ⟨(fun z => nomatch z), false, H', rfl, I', q'⟩
end

/-! ### str(x), repr(x), f"{x}" of an instance -/
section
variable {X : Cx} {CX : CXT} {n : Nat} {f C : Addr} {fd : FuncData} {ps : List Str} {sp : Sp} {E : XK}
def rTextO (C : Addr) (sp : Sp) (E : XK) : List V → Hp → VK → Prop := fun xs H Q => ∃ a dx fs, xs = [.ref a] ∧ H a = some (.ins C dx fs) ∧ sp xs H (fun v H' => ∃ z, v = .str z ∧ Q (.str z) H') E
theorem text_back {pins : List (Addr × Obj)} {σ : L2.St} {Q : VK} {r : Value} {s' : Shared} (z : EP X pins σ (fun v H' => ∃ z, v = .str z ∧ Q (.str z) H') r s') : PySem.W.StrBack (EP X pins σ Q) r s' := by
  obtain ⟨y, H', I', ry, z, rfl, q'⟩ := z
  obtain ⟨t, rfl⟩ := (show ∃ t, r = Value.str z t from ry)
  exact ⟨.str z, H', I', ⟨t, rfl⟩, q'⟩
theorem call_strO (F : FnOk X.prog X.w X.K X.mg X.base CX n f fd ps sp) (hs : PySem.W.findIn X.K (.ref C) "__str__" = some (some (.ref f))) (hf : PySem.W.isFn X.K (.ref f) = true) (hb : Binds X.K fd ps []) (hx : Passes CX X E) (hr : Room (n + 2) X.A) :
    CallR X (.type "str") (rTextO C sp E) := by
  intro pins s σ H xs us Q I r h
  obtain ⟨a, dx, fs, rfl, ha, q⟩ := h
  have r2 : Vals [V.ref a] [Value.ref a] := .cons rfl .nil
  rw [Vals.ref1 r]
  obtain ⟨mA, J, _⟩ := ins_get I.hok ha
  obtain ⟨od, J, _⟩ := J.look
  have sb : Sub X (n + 2) X.A := ⟨hr, rfl⟩
  exact PySem.W.kso_call sb.in1.in1.room.units0 I.kIn J hs hf (wpAny_mono (call_sub F hb hx sb.in1.in1 I r2 q) (fun r s' z => text_back z) fun _ _ x => x)
theorem call_reprO (F : FnOk X.prog X.w X.K X.mg X.base CX n f fd ps sp) (hs : PySem.W.findIn X.K (.ref C) "__repr__" = some (some (.ref f))) (hf : PySem.W.isFn X.K (.ref f) = true) (hb : Binds X.K fd ps []) (hx : Passes CX X E) (hr : Room (n + 1) X.A) :
    CallR X (.builtin "repr") (rTextO C sp E) := by
  intro pins s σ H xs us Q I r h
  obtain ⟨a, dx, fs, rfl, ha, q⟩ := h
  have r2 : Vals [V.ref a] [Value.ref a] := .cons rfl .nil
  rw [Vals.ref1 r]
  obtain ⟨mA, J, _⟩ := ins_get I.hok ha
  obtain ⟨od, J, _⟩ := J.look
  obtain ⟨m, hF⟩ := I.fr
  have sb : Sub X (n + 1) X.A := ⟨hr, rfl⟩
  exact PySem.W.repr_K sb.in1.room.units0 hF I.ok.mod.kin J hs hf (wpAny_mono (call_sub F hb hx sb.in1 I r2 q) (fun r s' z => text_back z) fun _ _ x => x)
def tFmtO (C : Addr) (sp : Sp) (E : XK) (te : TE) : TE := fun σ H Q => te σ H fun x H1 => rTextO C sp E [x] H1 Q
theorem pe_fmtO {e : Expr} {te : TE} {pos : Pos} (F : FnOk X.prog X.w X.K X.mg X.base CX n f fd ps sp) (hs : PySem.W.findIn X.K (.ref C) "__str__" = some (some (.ref f))) (hf : PySem.W.isFn X.K (.ref f) = true) (hb : Binds X.K fd ps []) (hx : Passes CX X E)
    (hfm : PySem.W.findIn X.K (.ref C) "__format__" = some (some (.builtin "object.__format__"))) (hm : PySem.W.mroIn X.K C (.type "object") = some true) (hr : Room (n + 1) X.A) (he : PE X e te) : PE X (.FormattedValue e (-1) none pos) (tFmtO C sp E te) := by
  refine ⟨fun pins s σ H Q I h => ?_⟩
  refine wpAny_FormattedValue_plain (thn (he.run pins s σ H _ I h) fun v s1 hv => ?_)
  obtain ⟨x, H1, I1, r1, a, dx, fs, e1, ha, q⟩ := hv
  cases e1
  cases r1
  have r2 : Vals [V.ref a] [Value.ref a] := .cons rfl .nil
  have I2 := I1.tok (s1.toks + 1)
  obtain ⟨mA, J, _⟩ := ins_get I1.hok ha
  obtain ⟨od, J, _⟩ := J.look
  have sb : Sub X (n + 1) X.A := ⟨hr, rfl⟩
  exact PySem.W.kfo_fieldS sb.in1.room.units0 I1.kIn J hfm hm hs hf (wpAny_mono (call_sub F hb hx sb.in1 I2 r2 q) (fun r s' z => text_back z) fun _ _ x => x)
end
end UO
namespace UO
open PySem L2
/-! ### what the top leaves of a class whose instances are compared -/
def sixT : List String := ["NoneType", "bool", "int", "str", "list", "tuple"]
structure InsX (K : PySem.W.Frag) (C : Addr) : Prop where
  cla : PySem.W.findIn K (.ref C) "__class__" = some (some (.builtin "object.__class__"))
  spe : PySem.W.specialIn K (.builtin "object.__class__") "__get__" = some (some (.builtin "getset_descriptor.__get__"))
  tak : PySem.W.takesIn K (.builtin "object.__class__") = some true
  mro : PySem.W.mroIn K C (.type "object") = some true
  ne : PySem.W.findIn K (.ref C) "__ne__" = some (some (.builtin "object.__ne__"))
  fmt : PySem.W.findIn K (.ref C) "__format__" = some (some (.builtin "object.__format__"))
  kit : ∀ T ∈ sixT, PySem.W.kitOne K (.type T) (.ref C) = some false
  sub : ∀ T ∈ sixT, PySem.W.mroIn K C (.type T) = some false
  fst : ∀ T ∈ sixT, PySem.W.subIn K (.type T) (.ref C) = some false
def insB (x : Str) (K : PySem.W.Frag) : Bool :=
  decide (PySem.W.findIn K (.ref (He.ga K x)) "__class__" = some (some (.builtin "object.__class__"))) && (decide (PySem.W.specialIn K (.builtin "object.__class__") "__get__" = some (some (.builtin "getset_descriptor.__get__"))) &&
  (decide (PySem.W.takesIn K (.builtin "object.__class__") = some true) && (decide (PySem.W.mroIn K (He.ga K x) (.type "object") = some true) && (decide (PySem.W.findIn K (.ref (He.ga K x)) "__ne__" = some (some (.builtin "object.__ne__"))) &&
  (decide (PySem.W.findIn K (.ref (He.ga K x)) "__format__" = some (some (.builtin "object.__format__"))) && (sixT.all (fun T => decide (PySem.W.kitOne K (.type T) (.ref (He.ga K x)) = some false)) &&
  (sixT.all (fun T => decide (PySem.W.mroIn K (He.ga K x) (.type T) = some false)) && sixT.all (fun T => decide (PySem.W.subIn K (.type T) (.ref (He.ga K x)) = some false)))))))))
theorem insB_ok {x : Str} {K : PySem.W.Frag} (h : insB x K = true) : InsX K (He.ga K x) := by
  obtain ⟨h1, h⟩ := He.ba h
  obtain ⟨h2, h⟩ := He.ba h
  obtain ⟨h3, h⟩ := He.ba h
  obtain ⟨h4, h⟩ := He.ba h
  obtain ⟨h5, h⟩ := He.ba h
  obtain ⟨h6, h⟩ := He.ba h
  obtain ⟨h7, h⟩ := He.ba h
  obtain ⟨h8, h9⟩ := He.ba h
  exact ⟨of_decide_eq_true h1, of_decide_eq_true h2, of_decide_eq_true h3, of_decide_eq_true h4, of_decide_eq_true h5, of_decide_eq_true h6, fun T hT => of_decide_eq_true (List.all_eq_true.mp h7 T hT),
    fun T hT => of_decide_eq_true (List.all_eq_true.mp h8 T hT), fun T hT => of_decide_eq_true (List.all_eq_true.mp h9 T hT)⟩
theorem InsX.ty {K : PySem.W.Frag} {C : Addr} (ix : InsX K C) (cl : Cls K C) {H : Hp} {a dx : Addr} {fs : List (Str × V)} (h : H a = some (.ins C dx fs)) : TyX K H (.ref a) (.ref C) := .base (.ins h cl ix.cla ix.spe ix.tak ix.mro)
theorem kit_self (K : PySem.W.Frag) (C : Addr) : PySem.W.kitOne K (.ref C) (.ref C) = some true := by
  unfold PySem.W.kitOne
  rw [if_pos (beq_self_eq_true _)]
theorem first_self (K : PySem.W.Frag) (C : Addr) : PySem.W.notFirst K C (.ref C) = true := by
  unfold PySem.W.notFirst
  rw [beq_self_eq_true, Bool.true_or]
theorem InsX.first {K : PySem.W.Frag} {C : Addr} (ix : InsX K C) {T : String} (hT : T ∈ sixT) : PySem.W.notFirst K C (.type T) = true := by
  unfold PySem.W.notFirst
  rw [ix.fst T hT, beq_self_eq_true, Bool.or_true]
theorem plain_ty {K : PySem.W.Frag} {H : Hp} {x : V} {T : String} (h : plainTy H K x T) : TyX K H x (.type T) ∧ T ∈ sixT := by
  cases x with
  | non => cases (show T = "NoneType" from h); exact ⟨.base .non, by decide⟩
  | bl b => cases (show T = "bool" from h); exact ⟨.base (.bl b), by decide⟩
  | int i => cases (show T = "int" from h); exact ⟨.base (.int i), by decide⟩
  | str z => cases (show T = "str" from h); exact ⟨.base (.str z), by decide⟩
  | ref p =>
    rcases h with ⟨rfl, xs, (h | ⟨o, h⟩) | ⟨o, its, n, h1, h2, _⟩⟩ | ⟨rfl, xs, (h | ⟨o, h⟩) | ⟨o, its, n, h1, h2, _⟩⟩
    · exact ⟨.base (.lst h), by decide⟩
    · exact ⟨.base (.frz h), by decide⟩
    · exact ⟨.kList h1 h2, by decide⟩
    · exact ⟨.base (.tup h), by decide⟩
    · exact ⟨.fTuple h, by decide⟩
    · exact ⟨.kTuple h1 h2, by decide⟩
  | _ => exact False.elim h
/-! ### a Hook with one more Bool -/
abbrev AlB : Type := He.AlD × Bool
def obsB (n : Nat) (fa : List He.Fa) (fn : List He.DefD) (ex : PySem.W.Frag → Bool) (g : Addr → Option Obj) : AlB := (He.obsDG n fa fn g, ex (He.frG g (He.asD g n)))
def hookB (n : Nat) (fa : List He.Fa) (fn : List He.DefD) (ex : PySem.W.Frag → Bool) : PySem.W.Hook where
  α := AlB
  obs := fun s => obsB n fa fn ex s.heap.get?
  val := fun _ => (He.valD fn, true)
  says := fun _ h => ∃ K : PySem.W.Frag, K.In h ∧ He.SaysD fa fn K ∧ ex K = true
  of := fun _ _ e => ⟨_, He.frG_in, congrArg (fun z : AlB => z.1) e, congrArg (fun z : AlB => z.2) e⟩
  keeps := fun _ _ _ ⟨K, hK, c⟩ k => ⟨K, PySem.W.Frag.In.keeps hK k, c⟩
theorem obsB_eq {n : Nat} {fa : List He.Fa} {fn : List He.DefD} {ex : PySem.W.Frag → Bool} {g : Addr → Option Obj} {s : Shared} (h : ∀ a, g a = s.heap.get? a) : obsB n fa fn ex g = (hookB n fa fn ex).obs s := by
  have e : g = s.heap.get? := funext h
  rw [e] <;> rfl
end UO
namespace UO
open PySem L2
/-! ### keyword defaults that are empty tuples -/
def kwAdr (K : PySem.W.Frag) (f : Str × Option Str) (x : Str) : Addr := match K.lookup (He.fAd K f) with
  | some ⟨_, _, .func fd, _⟩ => (match fd.kwdefaults with
    | .ref D => (match PySem.W.nsIn K D x with
      | some (some (.ref a)) => a
      | _ => 0)
    | _ => 0)
  | _ => 0
def tup0B (K : PySem.W.Frag) (a : Addr) : Bool := match K.lookup a with
  | some ⟨.type c, _, .seq its _, _⟩ => decide (c = "tuple") && decide (its.size = 0)
  | _ => false
theorem tup0B_ok {K : PySem.W.Frag} {a : Addr} (h : tup0B K a = true) (H : Hp) : SqT K H a [] := by
  unfold tup0B at h
  cases q : K.lookup a with
  | none =>
    rw [q] at h
    cases h
  | some o =>
    obtain ⟨oc, od, dt, osl⟩ := o
    rw [q] at h
    cases oc with
    | type c =>
      cases dt with
      | seq its n =>
        obtain ⟨h1, h2⟩ := He.ba (show (decide (c = "tuple") && decide (its.size = 0)) = true from h)
        have e : its.size = 0 := of_decide_eq_true h2
        refine .inr ⟨_, its, n, q, congrArg Value.type (of_decide_eq_true h1), rfl, by rw [e]; exact Nat.zero_le _, ?_⟩
        rw [Array.eq_empty_of_size_eq_zero e]
        exact .nil
      | _ => cases h
    | _ => cases dt <;> cases h
end UO

namespace UO
open PySem L2
/-! ### two classes, two rules -/
structure PairX (K : PySem.W.Frag) (C D : Addr) : Prop where
  kit : PySem.W.kitOne K (.ref C) (.ref D) = some false
  fst : PySem.W.notFirst K C (.ref D) = true
def pairB (x y : Str) (K : PySem.W.Frag) : Bool := decide (PySem.W.kitOne K (.ref (He.ga K x)) (.ref (He.ga K y)) = some false) && PySem.W.notFirst K (He.ga K x) (.ref (He.ga K y))
theorem pairB_ok {x y : Str} {K : PySem.W.Frag} (h : pairB x y K = true) : PairX K (He.ga K x) (He.ga K y) := by
  obtain ⟨h1, h2⟩ := He.ba h
  exact ⟨of_decide_eq_true h1, h2⟩
def rOr (r1 r2 : R2) : R2 := fun x y H Q => r1 x y H Q ∨ r2 x y H Q
theorem op_or {X : Cx} {f : Value → Value → Sem Value} {r1 r2 : R2} (h1 : OpR X f r1) (h2 : OpR X f r2) : OpR X f (rOr r1 r2) := by
  intro pins s σ H x y v u Q I rx ry h
  rcases h with h | h
  · exact h1 pins s σ H x y v u Q I rx ry h
  · exact h2 pins s σ H x y v u Q I rx ry h
end UO
namespace UH
open PySem L2
/-! ### a Hook over a written row of addresses, and its run in parts -/
/-- n addresses from a on -/
def upto : Nat → Addr → List Addr
  | 0, _ => []
  | n + 1, a => a :: upto n (a + 1)
def obsA (as : List Addr) (fa : List He.Fa) (fn : List He.DefD) (ex : PySem.W.Frag → Bool) (g : Addr → Option Obj) : UO.AlB := (He.obsD fa fn (He.frG g as), ex (He.frG g as))
def hookA (as : List Addr) (fa : List He.Fa) (fn : List He.DefD) (ex : PySem.W.Frag → Bool) : PySem.W.Hook where
  α := UO.AlB
  obs := fun s => obsA as fa fn ex s.heap.get?
  val := fun _ => (He.valD fn, true)
  says := fun _ h => ∃ K : PySem.W.Frag, K.In h ∧ He.SaysD fa fn K ∧ ex K = true
  of := fun _ _ e => ⟨_, He.frG_in, congrArg Prod.fst e, congrArg Prod.snd e⟩
  keeps := fun _ _ _ q k => q.elim fun K c => ⟨K, PySem.W.Frag.In.keeps c.1 k, c.2⟩
theorem obsA_eq {as : List Addr} {fa : List He.Fa} {fn : List He.DefD} {ex : PySem.W.Frag → Bool} {g : Addr → Option Obj} {s : Shared} (h : ∀ a, g a = s.heap.get? a) : obsA as fa fn ex g = (hookA as fa fn ex).obs s := by
  cases (funext h : g = s.heap.get?)
  rfl
/-- what two looks at one end tell together -/
theorem both {α β γ : Type} {o : Option α} {f : α → β} {g : α → γ} {x : β} {y : γ} (p : o.map f = some x) (q : o.map g = some y) : o.map (fun a => (f a, g a)) = some (x, y) := by
  cases o with
  | none => cases p
  | some a => rw [Option.some.inj p.symm, Option.some.inj q.symm]; rfl
open PySem.W HandSHeadRun in
/-- the run's equation, look by look -/
theorem run_of {r : OpenRow} {q : Program} {H : Hook} {ob : SharedT → H.α} {M : Nat} {loose : List PySem.Str} {w : World}
    (h1 : ∀ os, (endF (stepQ (denQ tabQ) r.prog w) M r.prog w os).map (fun s => looksF r.prog (boot_heap w.params) s.abs) = some true)
    (h2 : ∀ os, (endF (stepQ (denQ tabQ) r.prog w) M r.prog w os).map (fun s => seenQ q loose (importedModules r.prog.main.body) (fun s => xlAt q [] s && recOk r.toRowW.records s) s.abs) = some (openGood q loose))
    (h3 : ∀ os, (endF (stepQ (denQ tabQ) r.prog w) M r.prog w os).map ob = some (H.val w)) : RunEq r q H ob M loose w :=
  fun os => both (h1 os) (both (h2 os) (h3 os))
/-- the last look in parts, each a run of its own -/
theorem look_of {as : List Addr} {fa : List He.Fa} {fn : List He.DefD} {ex : PySem.W.Frag → Bool} {o : Option PySem.W.SharedT} (n : Nat)
    (p1 : o.map (fun s => fa.all fun f => f.ok (He.frG (HandSHeadRun.getT s) as)) = some true)
    (p2 : o.map (fun s => (fn.take n).all fun d => d.ok (He.frG (HandSHeadRun.getT s) as)) = some true)
    (p3 : o.map (fun s => (fn.drop n).all fun d => d.ok (He.frG (HandSHeadRun.getT s) as)) = some true)
    (p4 : o.map (fun s => (fn.take n).map fun d => He.fnW (He.frG (HandSHeadRun.getT s) as) d.at_) = some ((fn.take n).map He.DefD.val))
    (p5 : o.map (fun s => (fn.drop n).map fun d => He.fnW (He.frG (HandSHeadRun.getT s) as) d.at_) = some ((fn.drop n).map He.DefD.val))
    (p6 : o.map (fun s => ex (He.frG (HandSHeadRun.getT s) as)) = some true) :
    o.map (fun s => obsA as fa fn ex (HandSHeadRun.getT s)) = some (He.valD fn, true) := by
  cases o with
  | none => cases p1
  | some s =>
    simp only [Option.map_some, Option.some.injEq] at p1 p2 p3 p4 p5 p6 ⊢
    unfold obsA He.obsD He.valD
    have a : (fn.all fun d => d.ok (He.frG (HandSHeadRun.getT s) as)) = true := by
      rw [← List.take_append_drop n fn, List.all_append, p2, p3]
      rfl
    have b : (fn.map fun d => He.fnW (He.frG (HandSHeadRun.getT s) as) d.at_) = fn.map He.DefD.val := by
      rw [← List.take_append_drop n fn, List.map_append, List.map_append, p4, p5]
    rw [p1, a, b, p6]
    rfl
end UH
/-! own layer: the order of texts, lists of pairs of texts, sets of texts, min(default=), sorted pairs -/
namespace UP
open PySem L2 UW

/-! ### the order of texts -/
def ltS (x y : Str) : Bool := decide (x.cps.toList < y.cps.toList)
def leS (x y : Str) : Bool := !ltS y x
theorem ltS_irr (x : Str) : ltS x x = false := decide_eq_false (List.lt_irrefl _)
theorem ltS_tr {x y z : Str} (h : ltS x y = true) (g : ltS y z = true) : ltS x z = true := decide_eq_true (List.lt_trans (of_decide_eq_true h) (of_decide_eq_true g))
theorem ltS_or {x y : Str} (h : ltS x y = false) (n : x ≠ y) : ltS y x = true := by
  have h1 : ¬ x.cps.toList < y.cps.toList := of_decide_eq_false h
  refine decide_eq_true ?_
  rcases Classical.em (y.cps.toList < x.cps.toList) with h2 | h2
  · exact h2
  · exact absurd (str_ext (List.le_antisymm (List.not_lt.mp h2) (List.not_lt.mp h1))) n
theorem leS_refl (x : Str) : leS x x = true := by
  unfold leS
  rw [ltS_irr]
  rfl
theorem leS_anti {x y : Str} (h : leS x y = true) (g : leS y x = true) : x = y := by
  rcases Classical.em (x = y) with e | e
  · exact e
  · have h1 : ltS y x = false := by
      unfold leS at h
      cases q : ltS y x
      · rfl
      · rw [q] at h
        cases h
    have := ltS_or h1 (fun z => e z.symm)
    unfold leS at g
    rw [this] at g
    cases g
theorem leS_tot (x y : Str) : leS x y = true ∨ leS y x = true := by
  unfold leS
  cases q : ltS y x
  · exact .inl rfl
  · refine .inr ?_
    cases p : ltS x y
    · rfl
    · have := ltS_tr q p
      rw [ltS_irr] at this
      cases this
theorem leS_of_lt {x y : Str} (h : ltS x y = true) : leS x y = true := by
  rcases leS_tot x y with g | g
  · exact g
  · unfold leS at g
    rw [h] at g
    cases g
theorem leS_tr {x y z : Str} (h : leS x y = true) (g : leS y z = true) : leS x z = true := by
  rcases Classical.em (x = y) with e | e
  · rw [e]
    exact g
  rcases Classical.em (y = z) with e' | e'
  · rw [← e']
    exact h
  have a : ltS x y = true := by
    unfold leS at h
    refine ltS_or ?_ (fun q => e q.symm)
    cases q : ltS y x
    · rfl
    · rw [q] at h
      cases h
  have b : ltS y z = true := by
    unfold leS at g
    refine ltS_or ?_ (fun q => e' q.symm)
    cases q : ltS z y
    · rfl
    · rw [q] at g
      cases g
  exact leS_of_lt (ltS_tr a b)
theorem rising_pw : ∀ {p : Str} {xs : List Str}, PyProof.Rows.risingS p xs = true → (p :: xs).Pairwise fun x y => leS x y = true
  | p, [], _ => List.pairwise_singleton ..
  | p, x :: xs, h => by
    unfold PyProof.Rows.risingS at h
    obtain ⟨h1, h2⟩ := Bool.and_eq_true_iff.mp h
    have ih := rising_pw h2
    have hpx : leS p x = true := by
      unfold leS ltS
      rw [← PyProof.Rows.ltCps_eq]
      exact h1
    refine List.pairwise_cons.mpr ⟨fun y hy => ?_, ih⟩
    rcases List.mem_cons.mp hy with e | hy
    · rw [e]
      exact hpx
    · exact leS_tr hpx ((List.pairwise_cons.mp ih).1 y hy)
theorem sorted_pw {xs : List Str} (h : PyProof.Rows.sortedS xs = true) : xs.Pairwise fun x y => leS x y = true := by
  cases xs with
  | nil => exact List.Pairwise.nil
  | cons x xs => exact rising_pw h
/-- two risings of one bag are one -/
theorem pw_uniq {α : Type} {r : α → α → Prop} (an : ∀ x y, r x y → r y x → x = y) : ∀ {xs ys : List α}, xs.Perm ys → xs.Pairwise r → ys.Pairwise r → xs = ys
  | [], ys, p, _, _ => (List.Perm.eq_nil p.symm).symm
  | x :: xs, [], p, _, _ => absurd p.length_eq (by simp)
  | x :: xs, y :: ys, p, h, g => by
    have e : x = y := by
      rcases List.mem_cons.mp (p.mem_iff.mp (List.mem_cons_self (a := x) (l := xs))) with e | hx
      · exact e
      · rcases List.mem_cons.mp (p.mem_iff.mpr (List.mem_cons_self (a := y) (l := ys))) with e | hy
        · exact e.symm
        · exact an _ _ ((List.pairwise_cons.mp h).1 y hy) ((List.pairwise_cons.mp g).1 x hx)
    subst e
    rw [pw_uniq an p.cons_inv (List.pairwise_cons.mp h).2 (List.pairwise_cons.mp g).2]
/-- sorted(texts) -/
def srt (xs : List Str) : List Str := xs.mergeSort leS
theorem srt_perm (xs : List Str) : (srt xs).Perm xs := List.mergeSort_perm ..
theorem srt_pw (xs : List Str) : (srt xs).Pairwise fun x y => leS x y = true := by
  refine List.pairwise_mergeSort (le := leS) (fun a b c h g => leS_tr h g) (fun a b => ?_) xs
  rcases leS_tot a b with h | h
  · rw [h]
    rfl
  · rw [h, Bool.or_true]
theorem srt_uniq {xs ys : List Str} (p : ys.Perm xs) (h : ys.Pairwise fun x y => leS x y = true) : ys = srt xs :=
  pw_uniq (fun _ _ a b => leS_anti a b) (p.trans (srt_perm xs).symm) h (srt_pw xs)
theorem srt_of {xs ys : List Str} (p : ys.Perm xs) (h : PyProof.Rows.sortedS ys = true) : ys = srt xs := srt_uniq p (sorted_pw h)
theorem srt_mem {x : Str} {xs : List Str} : x ∈ srt xs ↔ x ∈ xs := (srt_perm xs).mem_iff
theorem srt_len (xs : List Str) : (srt xs).length = xs.length := (srt_perm xs).length_eq
theorem srt_nodup {xs : List Str} (h : xs.Nodup) : (srt xs).Nodup := (srt_perm xs).nodup_iff.mpr h
/-- the least one of which p is true -/
def Least (p : Str → Prop) : Option Str → Prop
  | none => ∀ x, ¬ p x
  | some m => p m ∧ ∀ x, p x → leS m x = true
theorem Least.uniq {p : Str → Prop} {a b : Option Str} (h : Least p a) (g : Least p b) : a = b := by
  cases a with
  | none =>
    cases b with
    | none => rfl
    | some y => exact absurd g.1 (h y)
  | some x =>
    cases b with
    | none => exact absurd h.1 (g x)
    | some y => rw [leS_anti (h.2 y g.1) (g.2 x h.1)]
theorem Least.iff {p q : Str → Prop} {a : Option Str} (h : Least p a) (e : ∀ x, p x ↔ q x) : Least q a := by
  cases a with
  | none => exact fun x z => h x ((e x).mpr z)
  | some m => exact ⟨(e m).mp h.1, fun x z => h.2 x ((e x).mpr z)⟩

/-! ### lists of pairs of texts -/
inductive Prs (K : PySem.W.Frag) (H : Hp) : List V → List (Str × Str) → Prop
  | nil : Prs K H [] []
  | cons {t : Addr} {d : Str × Str} {xs : List V} {ds : List (Str × Str)} : SqT K H t [.str d.1, .str d.2] → Prs K H xs ds → Prs K H (.ref t :: xs) (d :: ds)
section
variable {K : PySem.W.Frag} {H H' : Hp} {xs ys : List V} {ds es : List (Str × Str)}
theorem Prs.same (h : Prs K H xs ds) (s : Same H H') : Prs K H' xs ds := by
  induction h with
  | nil => exact .nil
  | cons a _ ih => exact .cons (tup_same s a) ih
theorem Prs.keep {q : Addr} (h : Prs K H xs ds) (k : Kp q H H') (n : NotTp H q) : Prs K H' xs ds := by
  induction h with
  | nil => exact .nil
  | cons a _ ih => exact .cons (k.tup n a) ih
theorem Prs.len (h : Prs K H xs ds) : xs.length = ds.length := by
  induction h with
  | nil => rfl
  | cons _ _ ih => rw [List.length_cons, List.length_cons, ih]
theorem Prs.app (h : Prs K H xs ds) (g : Prs K H ys es) : Prs K H (xs ++ ys) (ds ++ es) := by
  induction h with
  | nil => exact g
  | cons a _ ih => exact .cons a ih
theorem Prs.one {t : Addr} {d : Str × Str} (a : SqT K H t [.str d.1, .str d.2]) : Prs K H [.ref t] [d] := .cons a .nil
theorem Prs.rev (h : Prs K H xs ds) : Prs K H xs.reverse ds.reverse := by
  induction h with
  | nil => exact .nil
  | cons a _ ih =>
    rw [List.reverse_cons, List.reverse_cons]
    exact ih.app (.one a)
theorem Prs.get {i : Nat} {x : V} (h : Prs K H xs ds) (e : xs[i]? = some x) : ∃ t d, x = .ref t ∧ ds[i]? = some d ∧ SqT K H t [.str d.1, .str d.2] := by
  induction h generalizing i with
  | nil => simp at e
  | @cons t d _ _ a _ ih =>
    cases i with
    | zero =>
      cases e
      exact ⟨t, d, rfl, rfl, a⟩
    | succ i => exact ih e
def enc2 (d : Str × Str) : PyData := .tuple [.str d.1, .str d.2]
def Ok2 (d : Str × Str) : Prop := PyData.strOk d.1 = true ∧ PyData.strOk d.2 = true
theorem Prs.dp (h : Prs K H xs ds) : DpAll K H xs (ds.map enc2) := by
  induction h with
  | nil => exact .nil
  | cons a _ ih => exact .cons (.tup a (.cons (.str _) (.cons (.str _) .nil))) ih
theorem lay2 {d : Str × Str} (h : Ok2 d) : PyData.canLay0 (enc2 d) = true ∧ PyData.depth (enc2 d) = 1 := by
  unfold enc2
  refine ⟨?_, ?_⟩
  · simp only [PyData.canLay0, PyData.canLayAll0, h.1, h.2, Bool.and_self]
  · simp only [PyData.depth, PyData.depthAll, Nat.max_self]
theorem layAll2 : ∀ {ds : List (Str × Str)}, (∀ d ∈ ds, Ok2 d) → PyData.canLayAll0 (ds.map enc2) = true ∧ PyData.depthAll (ds.map enc2) ≤ 1
  | [], _ => ⟨by simp only [List.map_nil, PyData.canLayAll0], by simp only [List.map_nil, PyData.depthAll]; decide⟩
  | d :: ds, h => by
    obtain ⟨c, e⟩ := layAll2 fun y hy => h y (List.mem_cons_of_mem _ hy)
    obtain ⟨c1, e1⟩ := lay2 (h d (List.mem_cons_self ..))
    rw [List.map_cons]
    refine ⟨by simp only [PyData.canLayAll0, c1, c, Bool.and_self], ?_⟩
    simp only [PyData.depthAll, e1]
    omega
theorem shaped2 {d : Str × Str} (h : Ok2 d) : SeqAt.shaped (enc2 d) = true := by
  obtain ⟨a, b⟩ := lay2 h
  refine Bool.and_eq_true_iff.mpr ⟨a, decide_eq_true ?_⟩
  rw [b]
  decide
theorem shapedL2 {ds : List (Str × Str)} (h : ∀ d ∈ ds, Ok2 d) : SeqAt.shaped (.list (ds.map enc2)) = true := by
  obtain ⟨a, b⟩ := layAll2 h
  refine Bool.and_eq_true_iff.mpr ⟨?_, decide_eq_true ?_⟩
  · simp only [PyData.canLay0]
    exact a
  · simp only [PyData.depth]
    omega
theorem eqv2 (d e : Str × Str) : PyData.eqv (enc2 d) (enc2 e) = decide (d = e) := by
  obtain ⟨a, b⟩ := d
  obtain ⟨c, f⟩ := e
  have q := eqvAll_strs [a, b] [c, f]
  unfold enc2
  rw [show ∀ xs ys, PyData.eqv (.tuple xs) (.tuple ys) = PyData.eqvAll xs ys from fun xs ys => by simp only [PyData.eqv]]
  refine q.trans (decide_eq_decide.mpr ⟨fun z => ?_, fun z => ?_⟩)
  · injection z with z1 z2
    injection z2 with z2 _
    rw [z1, z2]
  · injection z with z1 z2
    rw [z1, z2]
theorem any2 (d : Str × Str) : ∀ ds : List (Str × Str), ((ds.map enc2).any fun z => PyData.eqv z (enc2 d)) = decide (d ∈ ds)
  | [] => rfl
  | e :: ds => by
    rw [List.map_cons, List.any_cons, any2 d ds, eqv2]
    by_cases h : e = d
    · rw [decide_eq_true h, Bool.true_or, decide_eq_true (by rw [h]; exact List.mem_cons_self ..)]
    · rw [decide_eq_false h, Bool.false_or]
      exact decide_eq_decide.mpr ⟨fun z => List.mem_cons_of_mem _ z, fun z => (List.mem_cons.mp z).resolve_left fun q => h q.symm⟩
theorem eqvAll2 : ∀ ds es : List (Str × Str), PyData.eqvAll (ds.map enc2) (es.map enc2) = decide (ds = es)
  | [], [] => by simp only [List.map_nil, PyData.eqvAll]; rfl
  | [], y :: ys => by simp only [List.map_nil, List.map_cons, PyData.eqvAll]; rfl
  | x :: xs, [] => by simp only [List.map_nil, List.map_cons, PyData.eqvAll]; rfl
  | x :: xs, y :: ys => by
    rw [List.map_cons, List.map_cons, show ∀ a b as bs, PyData.eqvAll (a :: as) (b :: bs) = (PyData.eqv a b && PyData.eqvAll as bs) from fun a b as bs => by simp only [PyData.eqvAll], eqvAll2 xs ys, eqv2]
    by_cases h : x = y
    · rw [decide_eq_true h, Bool.true_and]
      exact decide_eq_decide.mpr ⟨fun e => by rw [h, e], fun e => by injection e⟩
    · rw [decide_eq_false h, Bool.false_and]
      exact (decide_eq_false fun e => h (by injection e)).symm
theorem eqvL2 (ds es : List (Str × Str)) : PyData.eqv (.list (ds.map enc2)) (.list (es.map enc2)) = decide (ds = es) := by
  rw [show ∀ xs ys, PyData.eqv (.list xs) (.list ys) = PyData.eqvAll xs ys from fun xs ys => by simp only [PyData.eqv]]
  exact eqvAll2 ds es
theorem inD2 {t a : Addr} {d : Str × Str} {Q : VK} (ht : SqT K H t [.str d.1, .str d.2]) (ha : SqL K H a xs) (hx : Prs K H xs ds) (k : Ok2 d) (ks : ∀ d ∈ ds, Ok2 d) (q : Q (.bl (decide (d ∈ ds))) H) : rInD K (.ref t) (.ref a) H Q := by
  refine ⟨enc2 d, ds.map enc2, .tup ht (.cons (.str _) (.cons (.str _) .nil)), .lst ha hx.dp, shaped2 k, shapedL2 ks, ?_⟩
  rw [any2]
  exact q
theorem notInD2 {t a : Addr} {d : Str × Str} {Q : VK} (ht : SqT K H t [.str d.1, .str d.2]) (ha : SqL K H a xs) (hx : Prs K H xs ds) (k : Ok2 d) (ks : ∀ d ∈ ds, Ok2 d) (q : Q (.bl (!decide (d ∈ ds))) H) : rNotInD K (.ref t) (.ref a) H Q := by
  refine ⟨enc2 d, ds.map enc2, .tup ht (.cons (.str _) (.cons (.str _) .nil)), .lst ha hx.dp, shaped2 k, shapedL2 ks, ?_⟩
  rw [any2]
  exact q
theorem neD2 {a b : Addr} {Q : VK} (ha : SqL K H a xs) (hx : Prs K H xs ds) (hb : SqL K H b ys) (hy : Prs K H ys es) (k : ∀ d ∈ ds, Ok2 d) (k' : ∀ d ∈ es, Ok2 d) (q : Q (.bl (!decide (ds = es))) H) : rNeD K (.ref a) (.ref b) H Q := by
  refine ⟨_, _, .lst ha hx.dp, .lst hb hy.dp, shapedL2 k, shapedL2 k', ?_⟩
  rw [eqvL2]
  exact q
theorem eqD2 {a b : Addr} {Q : VK} (ha : SqL K H a xs) (hx : Prs K H xs ds) (hb : SqL K H b ys) (hy : Prs K H ys es) (k : ∀ d ∈ ds, Ok2 d) (k' : ∀ d ∈ es, Ok2 d) (q : Q (.bl (decide (ds = es))) H) : rEqD K (.ref a) (.ref b) H Q := by
  refine ⟨_, _, .lst ha hx.dp, .lst hb hy.dp, shapedL2 k, shapedL2 k', ?_⟩
  rw [eqvL2]
  exact q
end
end UP

namespace UP
open PySem PySem.Spec PyProof.Rows L2 UW
/-! ### min(texts, default=None) -/
def rMinS (K : PySem.W.Frag) : List V → List V → Hp → VK → Prop := fun vs zs H Q => ∃ (a : Addr) (xs : List Str), vs = [.ref a] ∧ zs = [.non] ∧ SqL K H a (xs.map V.str) ∧ ∀ o, Least (fun x => x ∈ xs) o → Q (optV o) H
theorem minOf_mem (x : Str) : ∀ xs : List Str, PySem.W.minOf x xs ∈ x :: xs
  | [] => List.mem_cons_self ..
  | y :: ys => by
    show PySem.W.minOf (if PySem.W.DatumOrd.lt y x = true then y else x) ys ∈ x :: y :: ys
    have := minOf_mem (if PySem.W.DatumOrd.lt y x = true then y else x) ys
    rcases List.mem_cons.mp this with e | e
    · rw [e]
      split
      · exact List.mem_cons_of_mem _ (List.mem_cons_self ..)
      · exact List.mem_cons_self ..
    · exact List.mem_cons_of_mem _ (List.mem_cons_of_mem _ e)
theorem minOf_le (x : Str) : ∀ xs : List Str, ∀ z ∈ x :: xs, leS (PySem.W.minOf x xs) z = true
  | [], z, hz => by
    rw [List.mem_singleton.mp hz]
    exact leS_refl _
  | y :: ys, z, hz => by
    show leS (PySem.W.minOf (if PySem.W.DatumOrd.lt y x = true then y else x) ys) z = true
    have ih := minOf_le (if PySem.W.DatumOrd.lt y x = true then y else x) ys
    have h0 := ih _ (List.mem_cons_self ..)
    have hx : leS (if PySem.W.DatumOrd.lt y x = true then y else x) x = true ∧ leS (if PySem.W.DatumOrd.lt y x = true then y else x) y = true := by
      rcases Classical.em (PySem.W.DatumOrd.lt y x = true) with c | c
      · rw [if_pos c]
        exact ⟨leS_of_lt c, leS_refl _⟩
      · rw [if_neg c]
        refine ⟨leS_refl _, ?_⟩
        unfold leS
        rw [show ltS y x = false from Bool.eq_false_iff.mpr c]
        rfl
    rcases List.mem_cons.mp hz with e | hz
    · rw [e]
      exact leS_tr h0 hx.1
    · rcases List.mem_cons.mp hz with e | hz
      · rw [e]
        exact leS_tr h0 hx.2
      · exact ih z (List.mem_cons_of_mem _ hz)
theorem vals_get : ∀ {vs : List V} {us : List Value}, Vals vs us → ∀ {i : Nat} {v : Value}, us[i]? = some v → ∃ x, vs[i]? = some x ∧ RelV x v
  | _, _, .nil, i, v, h => by simp at h
  | _, _, .cons r t, 0, v, h => by
    cases h
    exact ⟨_, rfl, r⟩
  | _, _, .cons r t, i + 1, v, h => vals_get t (i := i) h
theorem cr_minS {X : Cx} (hc : X.calm = true) (hu : X.A.units + 64 < cLine) : CallRK X (.builtin "min") [Str.ofString "default"] (rMinS X.K) := by
  intro pins s σ H vs zs us ws Q I r rz h
  obtain ⟨a, xs, rfl, rfl, hs, q⟩ := h
  obtain ⟨its, rv, hl, _⟩ := I.list hs
  rw [Vals.ref1 r]
  obtain ⟨w1, rfl, rfl⟩ := vals1 rz
  obtain ⟨as, hr⟩ := Dp.readsAll I (xs.map PyData.str) _ _ (dpAll_strs (K := X.K) (H := H) xs) rv
  have hold : PySem.W.HoldAll s.heap its.toArray.toList xs := ⟨as, hr⟩
  refine PySem.W.min_list_datum_default (I.ok.hd hc) hl.isList hold (by show X.A.units + 1 + _ < cLine; have : PySem.W.Datum.depth Str = 0 := rfl; omega) (fun e h' tk hk => ⟨.non, H, I.kept hk, rfl, ?_⟩) fun y ys i v h' tk e hi hv hk => ?_
  · subst e
    exact q none (fun x hx => nomatch hx)
  · subst e
    obtain ⟨bs, rd⟩ := hv
    have hi' : its[i]? = some v := by rw [← List.getElem?_toArray]; exact hi
    obtain ⟨x, hx, rx⟩ := vals_get rv hi'
    obtain ⟨w, hw, rfl⟩ := map_str_get hx
    obtain ⟨t, rfl⟩ := rx
    have ew : w = PySem.W.minOf y ys := by
      change PySem.Reads h' (.str w t) (.str (PySem.W.minOf y ys)) bs at rd
      cases rd
      rfl
    refine ⟨.str w, H, I.kept hk, ⟨t, rfl⟩, ?_⟩
    rw [ew]
    exact q (some _) ⟨minOf_mem y ys, fun z hz => minOf_le y ys z hz⟩
end UP

namespace UP
open PySem L2
theorem take_snoc {α : Type} {ds : List α} {i : Nat} {d : α} (h : ds[i]? = some d) : ds.take (i + 1) = ds.take i ++ [d] := by
  rw [List.take_add_one, h]
  rfl
theorem un65 {k : Nat} {A : Around} (r : Room k A) : A.units + 65 < cLine := by
  have := r.un
  omega
end UP

namespace UP
open PySem PySem.Spec PyProof.Rows L2
theorem binds_all {K : PySem.W.Frag} {fd : FuncData} {ps : List Str} (h : ∃ ds, Vals [] ds ∧ Binds K fd ps ds) : Binds K fd ps [] := by
  obtain ⟨ds, r, b⟩ := h
  cases r
  exact b
section
variable {X : Cx}
/-- y = {k: v for ..}, y a plain local -/
theorem ps_setDc {i : Nat} {y : Str} {py pos spos : Pos} {kx vx tg iter : Expr} {ifs : List Expr} {scope : Scope} {own : List (Str × Nat)} {wi : TI} {g : TG} {tt : TT} {tk tv : TE}
    (hc : X.calm = true) (hN : X.N.Nodup) (hy : X.N[i]? = some y) (hyl : X.env.scope.names.lookup y = some .local) (hsw : swapsWith (.DictComp kx vx [⟨tg, iter, ifs, 0⟩] scope pos) (some (.Name y py)) spos.line X.env = pure true)
    (hi : PI X tg iter wi) (ok : BlkOk X.N X.env.scope scope own)
    (hg : ∀ s H C cl fp, PG (X.blk s H scope (compEnvC scope cl C X.env) fp) tg g) (ht : ∀ s H C cl fp, PTs (X.blk s H scope (compEnvC scope cl C X.env) fp) ifs tt)
    (hk : ∀ s H C cl fp, PE (X.blk s H scope (compEnvC scope cl C X.env) fp) kx tk) (hv : ∀ s H C cl fp, PE (X.blk s H scope (compEnvC scope cl C X.env) fp) vx tv)
    (hs : ∀ x, foldedSetIterable iter X.env x = pure x := by intro _; rfl) :
    PS X (.Assign [.Name y py] (.DictComp kx vx [⟨tg, iter, ifs, 0⟩] scope pos) spos) (tAsg (tDc wi g tt tk tv (own.map (·.2))) (gName i)) := by
  refine ⟨fun pins s σ H D I h => ?_⟩
  rw [exec_Assign_Name_used _ _ _ _ hsw]
  refine wpAny_bind (wpAny_standAt (wpAny_bind (wpAny_bind (m := comprehension _ _ _ _ newDict false (eval iter X.env) (some (assign (.Name y py) X.env))) (thn ?_ fun _ z q => wpAny_pure (wpAny_pure q)))))
  refine dc_core (Qf := fun _ z => SP X pins D .next z) hc hN I hi ok hg ht hk hv hs (Q := fun x H1 => gName i x σ H1 D.nx) h fun L C z m H2 I2 q ns fp => ?_
  show wpAny _ _ (assign (.Name y py) X.env (.ref L)) _ _ _
  refine wpAny_assign_Name (store_ok2 (v := V.ref L) I2 hN hy (.inl hyl) rfl (fun z2 J ⟨a, sb, ha⟩ => ?_) (.inr hyl))
  obtain ⟨f0, f1, f2, f3, f4, f5⟩ := fp
  have ne : C ≠ a := ha.elim (fun e => e ▸ f1) fun e q => f4 y a e q.symm
  exact ⟨m, ns.sameBut sb ne, fun h3 sb3 => ⟨_, H2, J.turned (t' := z2.toks) (fun b o hb e => (sb3.2 b hb).trans e) f0 f1 f3 f4 f5, q⟩⟩
theorem sw_dict {kx vx : Expr} {gs : List Comprehension} {scope : Scope} {pos py : Pos} {y : Str} {l : Nat} {env : Env} (hk : env.scope.kind = .function) (hy : env.scope.names.lookup y = some .local) (hl : (py.line == pos.line) = true)
    (ha : (scope.names.any fun (n, k) => n == y && (k == .local || k == .cell)) = false) : swapsWith (.DictComp kx vx gs scope pos) (some (.Name y py)) l env = pure true := by
  have e1 : env.kindOf y = some .local := hy
  have e2 : env.blockKind = .function := by
    unfold Env.blockKind
    rw [hk]
    rfl
  unfold swapsWith
  simp only [e2, e1, ha, Expr.pos, hl]
  rfl
end
end UP

namespace UP
open PySem L2
theorem pe_fldK {X : Cx} {K : PySem.W.Frag} {e : Expr} {f : Str} {pos : Pos} {ta : TE} (hK : X.K = K) (he : PE X e ta) (hb : attributeBase e f X.env (eval e X.env) = eval e X.env) : PE X (.Attribute e f pos) (tFld K ta f) := by
  subst hK
  exact pe_fld he hb
end UP

namespace UP
open PySem L2
theorem pi_listK {X : Cx} {K : PySem.W.Frag} {tg e : Expr} {te : TE} (hK : X.K = K) (he : PE X e te) : PI X tg e (iList K te) := by
  subst hK
  exact pi_list he
theorem pi_tupK {X : Cx} {K : PySem.W.Frag} {tg e : Expr} {te : TE} (hK : X.K = K) (he : PE X e te) : PI X tg e (iTup K te) := by
  subst hK
  exact pi_tup he
end UP

namespace UP
open PySem L2
/-- a walk by one rule or by another -/
def iOr (a b : TI) : TI := fun σ H R => a σ H R ∨ b σ H R
theorem pi_or {X : Cx} {tg e : Expr} {a b : TI} (h : PI X tg e a) (g : PI X tg e b) : PI X tg e (iOr a b) :=
  ⟨fun pins s σ H R I q => q.elim (h.run pins s σ H R I) (g.run pins s σ H R I)⟩
end UP

namespace UP
open PySem PySem.Spec PyProof.Rows L2 UW
/-! ### set(texts), len of it -/
abbrev freshS (led : Bool) : Obj := { cls := .type "set", dict := none, data := .set #[] 0 (.fresh 0 0 led) }
/-- a key that is one of these texts -/
def keyIn (ds : List Str) : Key → Bool
  | .inl _ => false
  | .inr x => decide (x ∈ ds)
/-- the set of these texts stands at a -/
def SetTx (P : Program) (w : World) (h : Heap) (a : Addr) (xs : List Str) : Prop :=
  ∃ ds : List Str, ds.Nodup ∧ (∀ x, x ∈ ds ↔ x ∈ xs) ∧ ds.length ≤ xs.length ∧ h.SetOf (mixKind P w) a (keyIn ds) ds.length
section
variable {P : Program} {w : World} {A : Around} {E : Value → Shared → Prop} {s : Shared}
theorem SetTx.at {h h' : Heap} {a : Addr} {xs : List Str} (S : SetTx P w h a xs) (k : ∀ o, h.get? a = some o → h'.get? a = some o) : SetTx P w h' a xs := by
  obtain ⟨ds, h1, h2, h3, h4⟩ := S
  exact ⟨ds, h1, h2, h3, setOf_at h4 k⟩
theorem setOf_by {h : Heap} {a : Addr} {S S' : Key → Bool} {n n' : Nat} (g : h.SetOf (mixKind P w) a S n) (e : ∀ k, S k = S' k) (en : n = n') : h.SetOf (mixKind P w) a S' n' := by
  obtain rfl : S = S' := funext e
  rw [← en]
  exact g
/-- one text more -/
theorem SetTx.more {h' : Heap} {a : Addr} {xs ds : List Str} {x : Str} (h1 : ds.Nodup) (h2 : ∀ y, y ∈ ds ↔ y ∈ xs) (h3 : ds.length ≤ xs.length)
    (g : h'.SetOf (mixKind P w) a (fun k => keyIn ds k || decide (k = Sum.inr x)) (if keyIn ds (Sum.inr x) = true then ds.length else ds.length + 1)) : SetTx P w h' a (xs ++ [x]) := by
  by_cases c : x ∈ ds
  · refine ⟨ds, h1, fun y => ?_, by rw [List.length_append]; exact Nat.le_succ_of_le h3, ?_⟩
    · rw [List.mem_append, ← h2 y, List.mem_singleton]
      exact ⟨.inl, fun z => z.elim id fun e => e ▸ c⟩
    · refine setOf_by g (fun k => ?_) (if_pos (decide_eq_true c))
      by_cases e : k = Sum.inr x
      · rw [e]
        show (decide (x ∈ ds) || _) = decide (x ∈ ds)
        rw [decide_eq_true c, Bool.true_or]
      · rw [decide_eq_false e, Bool.or_false]
  · refine ⟨ds ++ [x], ?_, fun y => ?_, by rw [List.length_append, List.length_append]; exact Nat.succ_le_succ h3, ?_⟩
    · rw [List.nodup_append]
      exact ⟨h1, List.nodup_cons.mpr ⟨by simp, List.nodup_nil⟩, fun p hp r hr e => c (by rw [← List.mem_singleton.mp hr, ← e]; exact hp)⟩
    · rw [List.mem_append, List.mem_append, h2 y]
    · refine setOf_by g (fun k => ?_) ?_
      · by_cases e : k = Sum.inr x
        · rw [e, decide_eq_true (rfl : (Sum.inr x : Key) = Sum.inr x), Bool.or_true]
          exact (decide_eq_true (List.mem_append_right _ (List.mem_singleton.mpr rfl))).symm
        · rw [decide_eq_false e, Bool.or_false]
          cases k with
          | inl i => rfl
          | inr y =>
            refine decide_eq_decide.mpr ⟨List.mem_append_left _, fun z => (List.mem_append.mp z).elim id fun z => absurd (congrArg Sum.inr (List.mem_singleton.mp z)) e⟩
      · rw [show keyIn ds (Sum.inr x) = false from decide_eq_false c, List.length_append]
        rfl
theorem loop_tx {I S : Addr} {fp wr : List Addr} {G : Array GenState → Array GenState → Prop} {n : Nat} {Pv : Nat → Value → Prop} {St : Nat → Shared → Prop} {R : Result → Shared → Prop}
    (W : WalksS P w A.in1 I fp wr G n Pv St) (off : S ∉ fp) (xs : List Str) (hn : n = xs.length) (room : xs.length + 1 < scanBound) (hv : ∀ i v, Pv i v → ∃ x t, xs[i]? = some x ∧ v = .str x t) :
    ∀ (left i : Nat) (s : Shared), n - i = left → i ≤ n → St i s → SetTx P w s.heap S (xs.take i) →
      (∀ s', Moved (S :: wr) G s s' → SetTx P w s'.heap S xs → R (.ok (.ret .none)) s') →
      codeAny (model P w) A (.builtin "set.update.loop" ⟨[.ref S, .ref I], []⟩) R s := by
  have offw : S ∉ wr := fun z => off (W.sub _ z)
  have wide : ∀ c ∈ wr, c ∈ S :: wr := fun c hc => List.mem_cons_of_mem _ hc
  intro left
  induction left with
  | zero =>
    intro i s hk hi hst hT hR
    obtain rfl : i = n := by omega
    rw [List.take_of_length_le (by omega)] at hT
    refine codeAny_builtin PyProof.Rows.F.entry_set_update_loop ?_
    rw [Around.under_plainId PyProof.Rows.F.plain_set_update_loop _]
    refine wpAny_bind (m := pyNext (.ref I)) (W.done s _ _ hst fun s' hm => ?_)
    exact wpAny_pure (hR s' (hm.mono wide) (hT.at fun o e => hm.heap S o offw e))
  | succ left ih =>
    intro i s hk hi hst hT hR
    have lt : i < n := by omega
    refine codeAny_builtin PyProof.Rows.F.entry_set_update_loop ?_
    rw [Around.under_plainId PyProof.Rows.F.plain_set_update_loop _]
    refine wpAny_bind (m := pyNext (.ref I)) (W.item i s _ _ lt hst fun v s' hP hst' hm => ?_)
    obtain ⟨x, t, hx, rfl⟩ := hv i v hP
    obtain ⟨ds, d1, d2, d3, d4⟩ := hT.at (h' := s'.heap) fun o e => hm.heap S o offw e
    refine wpAny_bind (m := holding [Value.str x t] (setAdd S (.str x t))) (wpAny_holding ?_)
    unfold setAdd
    refine wpAny_holding (wpAny_bind ((mixKind P w).pyHash (k := .inr x) (mixKind_str P w x t) ?_))
    have few : ds.length + 1 < scanBound := by
      rw [List.length_take] at d3
      omega
    refine wpAny_setAddHashed_of (knd := mixKind P w) (s := { s' with toks := s'.toks + 1 }) (mixKind_str P w x t) rfl d4 few fun h' sb hS2 => ?_
    have hT2 : SetTx P w h' S (xs.take (i + 1)) := by
      rw [List.take_add_one, hx]
      exact SetTx.more d1 d2 d3 hS2
    refine wpAny_pure ⟨plainId_quiet PyProof.Rows.F.plain_set_update_loop _, ih (i + 1) _ (by omega) lt (W.frame _ s' _ _ hst' (Nat.le_succ _) fun c hc o e => ?_) hT2 fun s'' hm'' hT'' => ?_⟩
    · rw [sb.2 c fun z : c = S => off (z ▸ hc)]
      exact e
    · refine hR s'' (Moved.trans W.gtrans ((hm.mono wide).then_heap (Nat.le_succ _) fun c o hc e => ?_) hm'') hT''
      rw [sb.2 c fun z : c = S => hc (by rw [z]; exact List.mem_cons_self)]
      exact e
end
end UP

namespace UP
open PySem PySem.Spec PyProof.Rows L2 UW
/-- a walk over the list at l by an iterator that is laid behind a new set, whatever is handled -/
def ListWalk (P : Program) (w : World) (A : Around) (s : Shared) (l : Addr) (its : Array Value) : Prop := ∀ B : Around, B.handled = A.handled → ∀ I : Addr, I = s.heap.objs.size + 1 → ∃ (fp : List Addr) (St : Nat → Heap → Prop),
  Walks P w B I fp [I] its.size (fun i v => its[i]? = some v) St ∧ s.heap.objs.size ∉ fp ∧ ∀ h' : Heap, (∀ b o, s.heap.get? b = some o → h'.get? b = some o) → h'.IsListIter I l 0 → h'.IsList l its → St 0 h'
section
variable {P : Program} {w : World} {A : Around} {E : Value → Shared → Prop} {s : Shared}
set_option maxHeartbeats 3200000 in
/-- set(xs), xs a list of texts -/
theorem call_set_tx {l : Addr} {its : Array Value} (xs : List Str) {Q : Value → Shared → Prop} (hw : ListWalk P w A s l its) (hl : s.heap.IsList l its) (hv : ∀ (i : Nat) (v : Value), its[i]? = some v → ∃ x t, xs[i]? = some x ∧ v = Value.str x t) (hn : its.size = xs.length) (room : xs.length + 1 < scanBound)
    (h : ∀ (h' : Heap) (tk : Nat), SetTx P w h' s.heap.objs.size xs → (∀ b o, s.heap.get? b = some o → h'.get? b = some o) → Q (.ref s.heap.objs.size) { s with heap := h', toks := tk }) :
    wpAny (model P w) A (call (.type "set") [.ref l]) Q E s := by
  obtain ⟨c0, c1, mro⟩ := PySem.F.called_set.mro
  have made := PySem.F.called_set.made
  have sub0 := PySem.F.called_set.sub
  refine wpAny_call (codeAny_of_tree ?_)
  show wpAny _ _ (callAny (.type "set") _) _ _ _
  refine wpAny_pure ⟨Code.quiet_builtin _ (by decide +kernel), codeAny_builtin PySem.F.entry_type_call ?_⟩
  rw [Around.under_plain (weight_type_call_type "set" [.ref l] []) rfl]
  have n1 := PySem.F.called_set.notType
  have n2 := PySem.F.called_set.canCreate
  have n3 := PySem.F.typeCall_set_1 (.ref l)
  repeat (any_goals first | assumption | wp_step)
  refine codeAny_mono (code_set_new_1 (.ref l) (E := E) (Q₁ := fun ob z => ∃ led, ob = .ref s.heap.objs.size ∧ z = { s with heap := s.heap.push (freshS led) }) fun led => ⟨led, rfl, rfl⟩) fun r z hr => ?_
  cases r with
  | error e => exact hr
  | ok fl =>
    cases fl with
    | ret ob =>
      obtain ⟨led, rfl, rfl⟩ := hr
      have here : (s.heap.push (freshS led)).get? s.heap.objs.size = some (freshS led) := Heap.get?_push_size _ rfl
      have ty : Shared.TypeIs { s with heap := s.heap.push (freshS led) } (.ref s.heap.objs.size) "set" := ⟨_, here, rfl⟩
      have i1 := PySem.F.called_set.init.lookup
      have i2 := PySem.F.called_set.init.bind (.ref s.heap.objs.size)
      repeat (any_goals first | assumption | wp_step)
      refine codeAny_mono (codeAny_call_builtin (R := wants (fun r z => r = .none ∧ ∃ h' tk, z = { s with heap := h', toks := tk } ∧ SetTx P w h' s.heap.objs.size xs ∧ (∀ b o, s.heap.get? b = some o → h'.get? b = some o)) E)
        PySem.F.called_set.init.plain PySem.F.entry_set_init (check_set_init_1 ty ?_)) fun r2 z2 hr2 => ?_
      · obtain ⟨ol, hol, hcl, nl, hdl⟩ := hl
        obtain ⟨ocls, odict, odata, oslots⟩ := ol
        simp only at hcl hdl
        subst hcl hdl
        have hol2 : (s.heap.push (freshS led)).get? l = some { cls := .type "list", dict := odict, data := .seq its nl, slots := oslots } := Heap.get?_push_of_some _ hol
        have u1 := PySem.F.sub_list_set
        have u2 := PySem.F.sub_list_frozenset
        have u3 : (Value.type "list" == Value.type "dict") = false := by decide
        have lst : (s.heap.push (freshS led)).IsList l its := ⟨_, hol2, rfl, nl, rfl⟩
        unfold Builtin.«set.__init__» noKeywords Builtin.Frozenset.updateFrom
        generalize hPI : pyIter = PI
        wp_walk
        subst hPI
        refine wpAny_pyIter_list lst (wpAny_bind (wpAny_runValue ?_))
        have ltl : l < s.heap.objs.size := Heap.lt_size hol
        have zsz : (s.heap.push (freshS led)).objs.size = s.heap.objs.size + 1 := Heap.size_push ..
        have neI : l ≠ (s.heap.push (freshS led)).objs.size := by
          rw [zsz]
          exact Nat.ne_of_lt (Nat.lt_succ_of_lt ltl)
        obtain ⟨fp, St, W, off, start⟩ := hw A.in1.in1.in1 rfl _ zsz
        refine loop_tx W.toS off xs hn room hv (its.size - 0) 0 _ (by omega) (Nat.zero_le _) (start _ (fun b o e => Heap.get?_push_of_some _ (Heap.get?_push_of_some _ e)) ⟨_, Heap.get?_push_size _ rfl, rfl, rfl⟩ (lst.push _)) ?_ ?_
        · refine ⟨[], List.nodup_nil, fun x => ⟨(fun z => nomatch z), (fun z => nomatch z)⟩, Nat.le_refl _, ?_⟩
          have here2 : ((s.heap.push (freshS led)).push { cls := .type "list_iterator", data := .fields #[.ref l, .int 0 0] }).get? s.heap.objs.size = some (freshS led) := Heap.get?_push_of_some _ here
          exact ⟨freshS led, #[], 0, _, here2, ⟨rfl, rfl, rfl⟩, rfl, fun e he => by simp at he, fun k => by cases k <;> simp [keyIn], by decide, by rfl, rfl⟩
        · rintro ⟨h', g2, d2, tk2, os2⟩ hm hT
          obtain rfl : g2 = s.gens := hm.gens
          obtain rfl : d2 = s.drawn := hm.drawn
          obtain rfl : os2 = s.os := hm.os
          refine wpAny_pure (wpAny_pure ⟨rfl, h', tk2, rfl, hT, fun b o e => ?_⟩)
          have ltb : b < s.heap.objs.size := Heap.lt_size e
          refine hm.heap b o ?_ (Heap.get?_push_of_some _ (Heap.get?_push_of_some _ e))
          rw [zsz, List.mem_cons, List.mem_cons, List.mem_nil_iff, or_false]
          exact fun z => z.elim (Nat.ne_of_lt ltb) (Nat.ne_of_lt (Nat.lt_succ_of_lt ltb))
      · cases r2 with
        | error e => exact hr2
        | ok fl2 =>
          cases fl2 with
          | ret r =>
            obtain ⟨rfl, h', tk, rfl, hT, hk⟩ := hr2
            repeat (any_goals first | assumption | wp_step)
            exact h _ _ hT hk
          | _ => exact hr2.elim
    | _ => exact hr.elim
end
section
variable {X : Cx}
/-- set(xs) of a list of texts: as many as are unlike -/
def rSetTx (K : PySem.W.Frag) (P : Program) (w : World) : List V → Hp → VK → Prop := fun vs H Q => ∃ (l : Addr) (xs : List Str), vs = [.ref l] ∧ SqL K H l (xs.map V.str) ∧ xs.length < 1000 ∧
  ∀ p ds, H p = none → ds.Nodup → (∀ x, x ∈ ds ↔ x ∈ xs) → Q (.ref p) (upd H p (SetK P w p (keyIn ds) ds.length))
theorem cr_setTx (hc : X.calm = true) : CallR X (.type "set") (rSetTx X.K X.prog X.w) := by
  intro pins s σ H vs us Q I r h
  obtain ⟨l, xs, rfl, hs, few, q⟩ := h
  obtain ⟨its, rv, hl, _⟩ := I.list hs
  rw [Vals.ref1 r]
  have hlen : its.length = xs.length := by rw [← rv.length, List.length_map]
  have lt : l < s.heap.objs.size := hl.lt
  refine call_set_tx xs (fun B hB i hi => ⟨_, _, Walks.list (hB.trans (I.ok.hd hc)) i l (by rw [hi]; exact Nat.ne_of_lt (Nat.lt_succ_of_lt lt)) its.toArray, (fun z => by rw [hi, List.mem_cons, List.mem_singleton] at z; exact z.elim (fun e => absurd e (Nat.ne_of_lt (Nat.lt_succ_self _))) fun e => absurd e (Nat.ne_of_gt lt)), fun h' _ it ls => ⟨it, ls⟩⟩) hl.isList (fun i v hi => ?_) (by rw [List.size_toArray]; exact hlen) (by unfold scanBound; omega) fun h' tk hT hk => ?_
  · obtain ⟨x, hx, rx⟩ := vals_get rv (show its[i]? = some v by rw [← List.getElem?_toArray]; exact hi)
    obtain ⟨y, hy, rfl⟩ := map_str_get hx
    obtain ⟨t, rfl⟩ := rx
    exact ⟨y, t, hy, rfl⟩
  · obtain ⟨ds, h1, h2, _, h4⟩ := hT
    exact ⟨.ref _, upd H s.heap.objs.size (SetK X.prog X.w s.heap.objs.size (keyIn ds) ds.length), I.laid hk (Nat.le_refl _) (setK_new h4), rfl, q _ ds (I.hok.fresh (Nat.le_refl _)) h1 h2⟩
/-- len of such a set -/
def rLenTx (P : Program) (w : World) : List V → Hp → VK → Prop := fun vs H Q => ∃ (a : Addr) (S : Key → Bool) (n : Nat), vs = [.ref a] ∧ H a = some (SetK P w a S n) ∧ n < 1000 ∧ Q (.int n) H
theorem cr_lenTx : CallR X (.builtin "len") (rLenTx X.prog X.w) := by
  intro pins s σ H vs us Q I r h
  obtain ⟨a, S, n, rfl, ha, few, q⟩ := h
  rw [Vals.ref1 r]
  obtain ⟨o, es, ep, t, ho, hex, hd, _, _, _, hf, hn⟩ := setK_get I ha
  exact call_len_set ho hex hd hf (by rw [hn]; omega) ⟨.int n, H, I.tok _, ⟨_, by rw [hn]⟩, q⟩
end
end UP
/-! own layer: dicts by names, what holds of each entry; dict comprehensions walked; the pure side of shelves -/
namespace UT
open PySem L2 UW UP
/-- a dict by names: R of each name's value -/
inductive Tab {α : Type} (R : V → Str → α → Prop) : List (Key × V) → List (Str × α) → Prop
  | nil : Tab R [] []
  | cons {kvs : List (Key × V)} {us : List (Str × α)} {w : Str} {v : V} {u : α} (e : R v w u) (h : Tab R kvs us) : Tab R ((Sum.inr w, v) :: kvs) ((w, u) :: us)
section
variable {α : Type} {R R' : V → Str → α → Prop} {kvs kvs' : List (Key × V)} {us us' : List (Str × α)}
theorem Tab.imp (h : Tab R kvs us) (f : ∀ v w u, R v w u → R' v w u) : Tab R' kvs us := by
  induction h with
  | nil => exact .nil
  | cons e _ ih => exact .cons (f _ _ _ e) ih
theorem Tab.app (h : Tab R kvs us) (g : Tab R kvs' us') : Tab R (kvs ++ kvs') (us ++ us') := by
  induction h with
  | nil => exact g
  | cons e _ ih => exact .cons e ih
theorem Tab.len (h : Tab R kvs us) : kvs.length = us.length := by
  induction h with
  | nil => rfl
  | cons _ _ ih => rw [List.length_cons, List.length_cons, ih]
theorem Tab.keys (h : Tab R kvs us) : kvs.map (·.1) = (us.map (·.1)).map Sum.inr := by
  induction h with
  | nil => rfl
  | cons _ _ ih => rw [List.map_cons, List.map_cons, List.map_cons, ih]
theorem Tab.free (h : Tab R kvs us) {w : Str} (hw : w ∉ us.map (·.1)) : valV kvs (Sum.inr w : Key) = none := by
  induction h with
  | nil => rfl
  | cons _ _ ih =>
    rw [valV_neg (fun z => hw (by rw [List.map_cons]; cases z; exact List.mem_cons_self ..))]
    exact ih fun z => hw (List.mem_cons_of_mem _ z)
theorem Tab.get (h : Tab R kvs us) (hn : (us.map (·.1)).Nodup) : ∀ p ∈ us, ∃ v, valV kvs (Sum.inr p.1 : Key) = some v ∧ R v p.1 p.2 := by
  induction h with
  | nil => intro p hp; cases hp
  | @cons _ us w v u e _ ih =>
    intro p hp
    obtain ⟨h1, h2⟩ := List.nodup_cons.mp hn
    rcases List.mem_cons.mp hp with rfl | hp'
    · exact ⟨v, valV_pos rfl, e⟩
    · obtain ⟨v', hv, r⟩ := ih h2 p hp'
      refine ⟨v', ?_, r⟩
      rw [valV_neg (fun z => h1 (List.mem_map.mpr ⟨p, hp', (Sum.inr.inj z).symm⟩))]
      exact hv
theorem Tab.at (h : Tab R kvs us) {i : Nat} {k : Key} {v : V} (e : kvs[i]? = some (k, v)) : ∃ w u, k = Sum.inr w ∧ us[i]? = some (w, u) ∧ R v w u := by
  induction h generalizing i with
  | nil => simp at e
  | @cons _ _ w v' u r _ ih =>
    cases i with
    | zero =>
      cases e
      exact ⟨w, u, rfl, rfl, r⟩
    | succ i => exact ih e
/-- one name's facts made others -/
def setU (us : List (Str × α)) (w : Str) (u : α) : List (Str × α) := us.map fun p => if p.1 = w then (w, u) else p
theorem setU_names (us : List (Str × α)) (w : Str) (u : α) : (setU us w u).map (·.1) = us.map (·.1) := by
  unfold setU
  rw [List.map_map]
  refine List.map_congr_left fun p _ => ?_
  show (if p.1 = w then (w, u) else p).1 = p.1
  by_cases c : p.1 = w
  · rw [if_pos c, c]
  · rw [if_neg c]
theorem Tab.put (h : Tab R kvs us) {w : Str} {v : V} {u : α} (hw : w ∈ us.map (·.1)) (r : R v w u) : Tab R (putK kvs (Sum.inr w) v) (setU us w u) := by
  have a : (kvs.any fun kv => decide (kv.1 = (Sum.inr w : Key))) = true := by
    have : (Sum.inr w : Key) ∈ kvs.map (·.1) := by
      rw [h.keys]
      exact List.mem_map.mpr ⟨w, hw, rfl⟩
    obtain ⟨p, hp, e⟩ := List.mem_map.mp this
    exact List.any_eq_true.mpr ⟨p, hp, decide_eq_true e⟩
  unfold putK
  rw [if_pos a]
  clear a hw
  unfold setU
  induction h with
  | nil => exact .nil
  | @cons _ _ w' v' u' e _ ih =>
    rw [List.map_cons, List.map_cons]
    by_cases c : w' = w
    · subst c
      rw [if_pos rfl, if_pos rfl]
      exact .cons r ih
    · rw [if_neg (fun z => c (by cases z; rfl)), if_neg c]
      exact .cons e ih
end
/-! ### dict comprehensions, walked -/
theorem dc_it {J : It} {n : Nat} {G : Hp → Prop} {Y : Nat → Hp → V → Hp → Prop} (w : Walk J n G Y) {g : TG} {tt : TT} {tk tv : TE} {vs : List Nat} {σ : L2.St} {H1 : Hp} {D : Addr} {Qd : Hp → Prop} (Pv : Nat → Hp → Prop) (h0 : Pv 0 (upd H1 D (.dK []))) (hG : ∀ i H, i ≤ n → Pv i H → G H)
    (hs : ∀ i x H H', i < n → Pv i H → Y i H x H' → g x (wipe σ vs) H' fun σ2 H2 => wipe σ2 vs = wipe σ vs ∧ tt σ2 H2 fun b H3 =>
      if b = true then tk σ2 H3 fun y H4 => tv σ2 H4 fun z H5 => ∃ kvs k, y = kV k ∧ H5 D = some (.dK kvs) ∧ kvs.length < sizeLine ∧ Pv (i + 1) (upd H5 D (.dK (putK kvs k z))) else Pv (i + 1) H3)
    (hd : ∀ H, Pv n H → Qd H) :
    ∃ W : Nat → Nat → Hp → Prop, (∃ m, W 0 m (upd H1 D (.dK []))) ∧ ∀ i m H, W i m H →
      (J.stop i H ∧ Qd H) ∨ (J.go i H ∧ ∃ Nx : Hp → Prop, (∀ H', Nx H' → ∃ m', m' < m ∧ W (i + 1) m' H') ∧ ∀ x H', J.yld i H x H' → g x (wipe σ vs) H' fun σ2 H2 => wipe σ2 vs = wipe σ vs ∧ tt σ2 H2 fun b H3 =>
        if b = true then tk σ2 H3 fun y H4 => tv σ2 H4 fun z H5 => ∃ kvs k, y = kV k ∧ H5 D = some (.dK kvs) ∧ kvs.length < sizeLine ∧ Nx (upd H5 D (.dK (putK kvs k z))) else Nx H3) := by
  refine ⟨fun i m H => i ≤ n ∧ m = n - i ∧ Pv i H, ⟨n, Nat.zero_le _, rfl, h0⟩, fun i m H ⟨hi, e, p⟩ => ?_⟩
  subst e
  have gH := hG i H hi p
  rcases Nat.lt_or_eq_of_le hi with lt | e
  · exact .inr ⟨w.goes i H lt gH, Pv (i + 1), fun H' p' => ⟨n - (i + 1), by omega, lt, rfl, p'⟩, fun x H' y => hs i x H H' lt p (w.yields i H x H' lt gH y)⟩
  · subst e
    exact .inl ⟨w.stops H gH, hd H p⟩
theorem at5 {α : Type} {a b c d e f : α} {r : List α} : atI (a :: b :: c :: d :: e :: f :: r) 5 = some f := atI_nat (j := 5) rfl
theorem at6 {α : Type} {a b c d e f g : α} {r : List α} : atI (a :: b :: c :: d :: e :: f :: g :: r) 6 = some g := atI_nat (j := 6) rfl
/-! ### the pure side -/
/-- the facts of a name -/
def fu (us : List (Str × UF)) (w : Str) : Option UF := (us.find? fun p => decide (p.1 = w)).map (·.2)
theorem fu_some {us : List (Str × UF)} (hn : (us.map (·.1)).Nodup) {p : Str × UF} (hp : p ∈ us) : fu us p.1 = some p.2 := by
  unfold fu
  induction us with
  | nil => cases hp
  | cons q us ih =>
    obtain ⟨h1, h2⟩ := List.nodup_cons.mp hn
    rcases List.mem_cons.mp hp with rfl | hp
    · rw [List.find?_cons_of_pos (by exact decide_eq_true rfl)]
      rfl
    · rw [List.find?_cons_of_neg (by exact fun z => h1 (List.mem_map.mpr ⟨p, hp, (of_decide_eq_true z).symm⟩))]
      exact ih h2 hp
theorem fu_of {us : List (Str × UF)} {w : Str} (hw : w ∈ us.map (·.1)) (hn : (us.map (·.1)).Nodup) : ∃ u, fu us w = some u ∧ (w, u) ∈ us := by
  obtain ⟨p, hp, rfl⟩ := List.mem_map.mp hw
  exact ⟨p.2, fu_some hn hp, hp⟩
/-- o stands in the needs or the after of w, or opens it -/
def waitsB (us : List (Str × UF)) (w o : Str) : Bool := match fu us w, fu us o with
  | some u, some v => decide (o ∈ u.needs) || (decide (o ∈ u.after) || decide (v.opens = some w))
  | _, _ => false
/-- for whom w waits, rising -/
def wt (us : List (Str × UF)) (w : Str) : List Str := (srt (us.map (·.1))).filter (waitsB us w)
theorem srt_filter (p : Str → Bool) (l : List Str) : srt (l.filter p) = (srt l).filter p :=
  (srt_uniq ((srt_perm l).filter p) ((srt_pw l).filter p)).symm
theorem wt_mem {us : List (Str × UF)} {w o : Str} : o ∈ wt us w ↔ o ∈ us.map (·.1) ∧ waitsB us w o = true := by
  unfold wt
  rw [List.mem_filter, srt_mem]
theorem waits_self {us : List (Str × UF)} (hn : (us.map (·.1)).Nodup) (h : ∀ p ∈ us, p.1 ∉ p.2.needs ∧ p.1 ∉ p.2.after ∧ p.2.opens ≠ some p.1) (w : Str) : w ∉ wt us w := fun hw => by
  obtain ⟨h1, h2⟩ := wt_mem.mp hw
  obtain ⟨u, hu, hm⟩ := fu_of h1 hn
  obtain ⟨a, b, c⟩ := h _ hm
  unfold waitsB at h2
  rw [hu] at h2
  simp only [decide_eq_false a, decide_eq_false b, decide_eq_false c, Bool.or_self] at h2
  cases h2
/-! ### rings and orders, for any relation -/
section
variable (W : Str → List Str)
/-- some of the names wait for one another without end -/
def Knotted (ns : List Str) : Prop := ∃ S : List Str, S ≠ [] ∧ (∀ n ∈ S, n ∈ ns) ∧ ∀ n ∈ S, ∃ o ∈ W n, o ∈ S
structure FreeO (ns order : List Str) : Prop where
  nd : order.Nodup
  sub : ∀ n ∈ order, n ∈ ns
  pre : ∀ i n, order[i]? = some n → ∀ o ∈ W n, o ∈ ns → o ∈ order.take i
structure IsRing (ns r : List Str) : Prop where
  two : 2 ≤ r.length
  nd : r.Nodup
  sub : ∀ n ∈ r, n ∈ ns
  step : ∀ i n, r[i]? = some n → ∃ o, r[(i + 1) % r.length]? = some o ∧ o ∈ W n
variable {W}
theorem FreeO.nil (ns : List Str) : FreeO W ns [] := ⟨List.nodup_nil, (fun n h => nomatch h), fun i n h => by simp at h⟩
theorem FreeO.snoc {ns order : List Str} (f : FreeO W ns order) {n : Str} (hn : n ∈ ns) (h : n ∉ order) (hw : ∀ o ∈ W n, o ∈ ns → o ∈ order) : FreeO W ns (order ++ [n]) := by
  refine ⟨?_, fun x hx => ?_, fun i x hx o ho hs => ?_⟩
  · rw [List.nodup_append]
    exact ⟨f.nd, List.nodup_cons.mpr ⟨by simp, List.nodup_nil⟩, fun a ha b hb e => h (by rw [← List.mem_singleton.mp hb, ← e]; exact ha)⟩
  · rcases List.mem_append.mp hx with hx | hx
    · exact f.sub x hx
    · rw [List.mem_singleton.mp hx]
      exact hn
  · rcases Nat.lt_or_ge i order.length with c | c
    · rw [List.getElem?_append_left c] at hx
      rw [List.take_append_of_le_length (Nat.le_of_lt c)]
      exact f.pre i x hx o ho hs
    · rw [List.getElem?_append_right c] at hx
      have ei : i - order.length = 0 := by
        rcases Nat.eq_zero_or_pos (i - order.length) with z | z
        · exact z
        · rw [List.getElem?_eq_none (by simp; omega)] at hx
          cases hx
      rw [ei] at hx
      cases hx
      rw [show i = order.length by omega, List.take_left]
      exact hw o ho hs
/-- what stands in such an order is in no knot -/
theorem FreeO.free {ns order : List Str} (f : FreeO W ns order) {S : List Str} (hs : ∀ n ∈ S, n ∈ ns) (hS : ∀ n ∈ S, ∃ o ∈ W n, o ∈ S) : ∀ (k : Nat) (i : Nat), i < k → ∀ n, order[i]? = some n → n ∉ S := by
  intro k
  induction k with
  | zero => intro i hi; exact absurd hi (Nat.not_lt_zero _)
  | succ k ih =>
    intro i hi n hn hm
    obtain ⟨o, ho, hoS⟩ := hS n hm
    have ht := f.pre i n hn o ho (hs o hoS)
    rw [List.mem_take_iff_getElem] at ht
    obtain ⟨j, hj, e⟩ := ht
    refine ih j (by omega) o ?_ hoS
    rw [← e]
    exact List.getElem?_eq_getElem (by omega)
theorem FreeO.no {ns order : List Str} (f : FreeO W ns order) (h : ∀ n ∈ ns, n ∈ order) : ¬ Knotted W ns := fun ⟨S, hne, hs, hS⟩ => by
  obtain ⟨n, hn⟩ := List.exists_mem_of_ne_nil S hne
  obtain ⟨i, hi, e⟩ := List.getElem_of_mem (h n (hs n hn))
  exact f.free hs hS (i + 1) i (Nat.lt_succ_self _) n (by rw [List.getElem?_eq_getElem hi, e]) hn
/-- one step of the law's own removal -/
def rstep (S : List Str) : List Str := S.filter fun n => (W n).any fun o => decide (o ∈ S)
def rsteps (W : Str → List Str) : Nat → List Str → List Str
  | 0, S => S
  | k + 1, S => rstep (W := W) (rsteps W k S)
theorem rsteps_sub {ns : List Str} : ∀ k, ∀ n ∈ rsteps W k ns, n ∈ ns
  | 0, n, h => h
  | k + 1, n, h => rsteps_sub k n (List.mem_filter.mp h).1
theorem rsteps_keep {ns S : List Str} (hs : ∀ n ∈ S, n ∈ ns) (hS : ∀ n ∈ S, ∃ o ∈ W n, o ∈ S) : ∀ k, ∀ n ∈ S, n ∈ rsteps W k ns
  | 0, n, h => hs n h
  | k + 1, n, h => by
    obtain ⟨o, ho, hoS⟩ := hS n h
    exact List.mem_filter.mpr ⟨rsteps_keep hs hS k n h, List.any_eq_true.mpr ⟨o, ho, decide_eq_true (rsteps_keep hs hS k o hoS)⟩⟩
theorem rsteps_len {ns : List Str} : ∀ k, rstep (W := W) (rsteps W k ns) = rsteps W k ns ∨ (rsteps W k ns).length + k ≤ ns.length
  | 0 => .inr (Nat.le_refl _)
  | k + 1 => by
    rcases rsteps_len (ns := ns) k with e | e
    · refine .inl ?_
      show rstep (W := W) (rstep (W := W) (rsteps W k ns)) = rstep (W := W) (rsteps W k ns)
      rw [e, e]
    · by_cases c : (rsteps W (k + 1) ns).length < (rsteps W k ns).length
      · exact .inr (by omega)
      · refine .inl ?_
        have l : (rstep (W := W) (rsteps W k ns)).length = (rsteps W k ns).length := by
          have := List.length_filter_le (fun n => (W n).any fun o => decide (o ∈ rsteps W k ns)) (rsteps W k ns)
          have c' : ¬ (rstep (W := W) (rsteps W k ns)).length < (rsteps W k ns).length := c
          unfold rstep at c' ⊢
          omega
        have e2 : rstep (W := W) (rsteps W k ns) = rsteps W k ns := List.filter_eq_self.mpr (List.length_filter_eq_length_iff.mp l)
        show rstep (W := W) (rstep (W := W) (rsteps W k ns)) = rstep (W := W) (rsteps W k ns)
        rw [e2, e2]
theorem rsteps_knot {ns : List Str} : rsteps W ns.length ns = [] ↔ ¬ Knotted W ns := by
  refine ⟨fun e ⟨S, hne, hs, hS⟩ => ?_, fun h => ?_⟩
  · obtain ⟨n, hn⟩ := List.exists_mem_of_ne_nil S hne
    have := rsteps_keep hs hS ns.length n hn
    rw [e] at this
    cases this
  · rcases rsteps_len (W := W) (ns := ns) ns.length with e | e
    · rcases Classical.em (rsteps W ns.length ns = []) with c | c
      · exact c
      · refine absurd ⟨_, c, fun n hn => rsteps_sub _ n hn, fun n hn => ?_⟩ h
        rw [← e] at hn
        obtain ⟨o, ho, z⟩ := List.any_eq_true.mp (List.mem_filter.mp hn).2
        exact ⟨o, ho, of_decide_eq_true z⟩
    · exact List.length_eq_zero_iff.mp (by omega)
/-- a trail of those that wait, each for the next -/
structure Trail (W : Str → List Str) (ns t : List Str) (n : Str) : Prop where
  nd : t.Nodup
  sub : ∀ x ∈ t, x ∈ ns
  nx : n ∈ ns
  step : ∀ i x y, t[i]? = some x → (t ++ [n])[i + 1]? = some y → y ∈ W x
theorem Trail.start {ns : List Str} {n : Str} (h : n ∈ ns) : Trail W ns [] n := ⟨List.nodup_nil, (fun x h => nomatch h), h, fun i x y h => by simp at h⟩
theorem Trail.more {ns t : List Str} {n m : Str} (h : Trail W ns t n) (hn : n ∉ t) (hm : m ∈ ns) (hw : m ∈ W n) : Trail W ns (t ++ [n]) m := by
  refine ⟨?_, fun x hx => ?_, hm, fun i x y hx hy => ?_⟩
  · rw [List.nodup_append]
    exact ⟨h.nd, List.nodup_cons.mpr ⟨by simp, List.nodup_nil⟩, fun a ha b hb e => hn (by rw [← List.mem_singleton.mp hb, ← e]; exact ha)⟩
  · rcases List.mem_append.mp hx with hx | hx
    · exact h.sub x hx
    · rw [List.mem_singleton.mp hx]
      exact h.nx
  · rcases Nat.lt_or_ge i t.length with c | c
    · rw [List.getElem?_append_left c] at hx
      rw [List.getElem?_append_left (by rw [List.length_append]; show i + 1 < t.length + 1; omega)] at hy
      exact h.step i x y hx hy
    · have hi : i < (t ++ [n]).length := (List.getElem?_eq_some_iff.mp hx).1
      rw [List.length_append] at hi
      have ei : i = t.length := by
        have : i < t.length + 1 := hi
        omega
      subst ei
      rw [List.getElem?_append_right (Nat.le_refl _), Nat.sub_self] at hx
      cases hx
      rw [List.getElem?_append_right (by rw [List.length_append]; exact Nat.le_refl _), List.length_append, show t.length + 1 - (t.length + [n].length) = 0 from Nat.sub_self _] at hy
      cases hy
      exact hw
theorem Trail.ring {ns t : List Str} {n : Str} (h : Trail W ns t n) {j : Nat} (hj : t[j]? = some n) (self : n ∉ W n) : IsRing W ns (t.drop j) := by
  have hlt : j < t.length := (List.getElem?_eq_some_iff.mp hj).1
  have key : ∀ i x, (t.drop j)[i]? = some x → ∃ o, (t.drop j)[(i + 1) % (t.drop j).length]? = some o ∧ o ∈ W x := fun i x hx => by
    rw [List.getElem?_drop] at hx
    have hi : j + i < t.length := (List.getElem?_eq_some_iff.mp hx).1
    rw [List.length_drop]
    by_cases c : j + i + 1 < t.length
    · rw [Nat.mod_eq_of_lt (by omega)]
      refine ⟨t[j + i + 1], ?_, h.step (j + i) x _ hx ?_⟩
      · rw [List.getElem?_drop, ← Nat.add_assoc]
        exact List.getElem?_eq_getElem c
      · rw [List.getElem?_append_left c]
        exact List.getElem?_eq_getElem c
    · have e : i + 1 = t.length - j := by omega
      rw [e, Nat.mod_self]
      refine ⟨n, ?_, h.step (j + i) x n hx ?_⟩
      · rw [List.getElem?_drop]
        exact hj
      · rw [show j + i + 1 = t.length by omega, List.getElem?_append_right (Nat.le_refl _), Nat.sub_self]
        rfl
  refine ⟨?_, List.Nodup.sublist (List.drop_sublist ..) h.nd, fun x hx => h.sub x (List.mem_of_mem_drop hx), key⟩
  rcases Nat.lt_or_ge 1 (t.drop j).length with c | c
  · exact c
  · have l : (t.drop j).length = 1 := by
      rw [List.length_drop] at c ⊢
      omega
    obtain ⟨o, ho, hw⟩ := key 0 n (by rw [List.getElem?_drop]; exact hj)
    rw [l, Nat.mod_self, List.getElem?_drop] at ho
    have : o = n := Option.some.inj (ho.symm.trans hj)
    rw [this] at hw
    exact absurd hw self
end
end UT
/-! own layer: dicts whose keys are tuples: comprehensions (after the library's rule for plain keys), sorted -/
namespace UD
open PySem PySem.Spec PyProof.Rows L2 UW UP
section
variable {X : Cx}
/-- d[k] = v, k a tuple, as a comprehension does it -/
theorem put_tup {pins : List (Addr × Obj)} {σ : L2.St} {H : Hp} {s : Shared} {E : Value → Shared → Prop} {D b : Addr} {kvs : List (List Key × V)} {k : List Key} {v : V} {r : Value} {Q : Unit → Shared → Prop}
    (hu : X.A.units + 1 < cLine) (I : L2.Inv X pins σ H s) (hD : H D = some (.dT kvs)) (hb : H b = some (.tup (k.map kV))) (hz : kvs.length < sizeLine) (rv : RelV v r)
    (h : ∀ s', L2.Inv X pins σ (upd H D (.dT (putK kvs k v))) s' → Q () s') : wpAny (model X.prog X.w) X.A (dictSet D (.ref b) r) Q E s := by
  obtain ⟨z, nsys, xs, rel, dd⟩ := dt_of I.hok hD
  have few : (putK kvs k v).length ≤ sizeLine := by
    have := length_putK kvs k v
    omega
  refine wpAny_dictSet_heap (hsz := by rw [← Paired.length rel]; exact z) (show X.A.units < cLine by omega) (key_of I.hok hb) dd fun h2 dd2 same => h _ ?_
  obtain ⟨o, es, ep, e1, e2, e3, e4, _, e5⟩ := dd2
  refine d_write I (by rw [hD]; exact True.intro) same ⟨o, e1⟩ ⟨few, nsys, _, (rel.put k hb rv).keeps fun c ys ec => ?_, o, es, ep, e1, e2, e3, e4, e5⟩
  rw [upd_ne (ne_of ec hD (fun q => nomatch q))]
  exact ec
/-- {k: v for ..}, the keys tuples: D the new dict -/
def tDt (wi : TI) (g : TG) (tt : TT) (tk tv : TE) (vs : List Nat) : TE := fun σ H Q => wi σ H fun J H1 => ∀ D, H1 D = none → ∃ W : Nat → Nat → Hp → Prop, (∃ m, W 0 m (upd H1 D (.dT []))) ∧ ∀ i m H, W i m H →
  (J.stop i H ∧ Q (.ref D) H) ∨ (J.go i H ∧ ∃ Nx : Hp → Prop, (∀ H', Nx H' → ∃ m', m' < m ∧ W (i + 1) m' H') ∧ ∀ x H', J.yld i H x H' → g x (wipe σ vs) H' fun σ2 H2 => wipe σ2 vs = wipe σ vs ∧ tt σ2 H2 fun c H3 =>
    if c = true then tk σ2 H3 fun y H4 => tv σ2 H4 fun z H5 => ∃ kvs k b, y = .ref b ∧ H5 b = some (.tup (k.map kV)) ∧ H5 D = some (.dT kvs) ∧ kvs.length < sizeLine ∧ Nx (upd H5 D (.dT (putK kvs k z))) else Nx H3)
theorem dt_core {pins : List (Addr × Obj)} {s : Shared} {σ : L2.St} {H : Hp} {Q : VK} {kx vx tg iter : Expr} {ifs : List Expr} {scope : Scope} {own : List (Str × Nat)} {pos pos' : Pos} {wi : TI} {g : TG} {tt : TT} {tk tv : TE} {use : Option (Value → Sem Unit)} {Qf : Value → Shared → Prop}
    (hu : X.A.units + 1 < cLine) (hc : X.calm = true) (hN : X.N.Nodup) (I : L2.Inv X pins σ H s) (hi : PI X tg iter wi) (ok : BlkOk X.N X.env.scope scope own)
    (hg : ∀ s H C cl fp, PG (X.blk s H scope (compEnvC scope cl C X.env) fp) tg g) (ht : ∀ s H C cl fp, PTs (X.blk s H scope (compEnvC scope cl C X.env) fp) ifs tt)
    (hk : ∀ s H C cl fp, PE (X.blk s H scope (compEnvC scope cl C X.env) fp) kx tk) (hv : ∀ s H C cl fp, PE (X.blk s H scope (compEnvC scope cl C X.env) fp) vx tv)
    (hs : ∀ x, foldedSetIterable iter X.env x = pure x) (h : tDt wi g tt tk tv (own.map (·.2)) σ H Q)
    (fin : ∀ D C s' m H', L2.Inv X pins σ H' s' → Q (.ref D) H' → s'.heap.Ns C m → FpOk X pins H' C → compPost (model X.prog X.w) X.A X.xe use Qf (.ref D) C (.ok .next) s') :
    wpAny (model X.prog X.w) X.A (comprehension (.DictComp kx vx [⟨tg, iter, ifs, 0⟩] scope pos) scope X.env pos' newDict false (eval iter X.env) use) Qf X.xe s := by
  have cells : ∀ y ∈ scope.names, y.2 = .free → ∃ c, X.env.cells.lookup y.1 = some c := fun y hy e => (ok.free y hy e).elim (fun q => I.ok.has _ (.inl q)) fun q => I.ok.has _ (.inr q)
  refine wpAny_comprehension_free (use := use) rfl hs (closure_ok cells) ok.kind (fun y hy e => (ok.uniq y hy).trans (congrArg some e)) (thn (hi.run pins s σ H _ I h) fun _ _ q1 => thn q1 fun _ s2 q2 => ?_)
  obtain ⟨it, fp, tn, J, H2, rfl, I2, T, st2, f2, walk⟩ := q2
  refine wpAny_newObj_type (newEnv_comp ?_)
  obtain ⟨D, eD⟩ : ∃ D, s2.heap.objs.size = D := ⟨_, rfl⟩
  have freeD : H2 D = none := I2.hok.fresh (Nat.le_of_eq eD)
  obtain ⟨W, ⟨m0, w0⟩, turn⟩ := walk D freeD
  obtain ⟨z3, e3⟩ : ∃ z3 : Shared, { s2 with heap := s2.heap.push { cls := .type "dict", data := .dict #[] } } = z3 := ⟨_, rfl⟩
  have heap3 : z3.heap = s2.heap.push { cls := .type "dict", data := .dict #[] } := by rw [← e3]
  obtain ⟨H3, eH3⟩ : ∃ H3, upd H2 D (.dT []) = H3 := ⟨_, rfl⟩
  have I3 : L2.Inv X pins σ H3 z3 := by
    rw [← e3, ← eH3]
    refine I2.laid (t' := s2.toks) (fun _ _ e => Heap.get?_push_of_some _ e) (Nat.le_of_eq eD) ?_
    rw [← eD]
    exact dt_empty s2.heap I2.big
  have lt : ∀ c ∈ fp, c < s2.heap.objs.size := fun c hc => let ⟨_, e, _⟩ := T.obj _ _ st2 c hc; Heap.lt_size e
  have f3 : ∀ c ∈ fp, FpOk X pins H3 c ∧ c < z3.heap.objs.size := fun c hc => by
    refine ⟨⟨?_, (f2 c hc).2⟩, ?_⟩
    · rw [← eH3, upd_ne (by rw [← eD]; exact Nat.ne_of_lt (lt c hc))]
      exact (f2 c hc).1
    · rw [heap3, Heap.size_push]
      exact Nat.lt_succ_of_lt (lt c hc)
  have st3 : tn 0 z3.heap := T.keep _ _ _ st2 fun _ _ _ e => by rw [heap3]; exact Heap.get?_push_of_some _ e
  have I4 := block_start I3 ok hN f3
  obtain ⟨cl, ecl⟩ : ∃ cl, cellsFrom (z3.heap.objs.size + 1) scope.names (cloFrom X.env.cells scope.names []) = cl := ⟨_, rfl⟩
  rw [ecl] at I4
  have pg := hg z3 H3 z3.heap.objs.size cl fp
  have pt := ht z3 H3 z3.heap.objs.size cl fp
  have pk := hk z3 H3 z3.heap.objs.size cl fp
  have pv := hv z3 H3 z3.heap.objs.size cl fp
  have free3 : ∀ c ∈ fp, H3 c = none := fun c hc => (f3 c hc).1.1
  rw [eH3] at w0
  rw [e3]
  show codeAny _ _ (.compStart (.DictComp kx vx [⟨tg, iter, ifs, 0⟩] scope pos) 0 (.ref it) (.ref s2.heap.objs.size) (compEnvC scope (cellsFrom (z3.heap.objs.size + 1) scope.names (cloFrom X.env.cells scope.names [])) z3.heap.objs.size X.env)) (compPost (model X.prog X.w) X.A X.xe use Qf (.ref s2.heap.objs.size) z3.heap.objs.size) { z3 with heap := pushCells (z3.heap.push { cls := .type "dict", data := .dict #[] }) scope.names }
  rw [ecl, eD]
  obtain ⟨ce, ece⟩ : ∃ ce, compEnvC scope cl z3.heap.objs.size X.env = ce := ⟨_, rfl⟩
  rw [ece] at I4 pg pt pk pv ⊢
  have loc : ce.locals = z3.heap.objs.size := by rw [← ece]; rfl
  obtain ⟨z4, e4⟩ : ∃ z4 : Shared, { z3 with heap := pushCells (z3.heap.push { cls := .type "dict", data := .dict #[] }) scope.names } = z4 := ⟨_, rfl⟩
  rw [e4] at I4 ⊢
  have st4 : tn 0 z4.heap := T.keep _ _ _ st3 fun _ _ _ e => by rw [← e4]; exact pushCells_keeps _ _ _ _ (Heap.get?_push_of_some _ e)
  have fpok : ∀ {τ : L2.St} {G : Hp} {t : Shared}, L2.Inv (X.blk z3 H3 scope ce fp) [] τ G t → (∀ c ∈ fp, G c = none) → ∀ c ∈ fp, FpOk (X.blk z3 H3 scope ce fp) [] G c := fun {τ G t} J hn c hc =>
    ⟨hn c hc, (J.ok.exf c hc).1, J.ok.exfs c hc, .inl hc, fun x a e => (J.ok.exf c hc).2 x a e, fun p hp => absurd (show p ∈ ([] : List (Addr × Obj)) ++ [] from hp) (by simp)⟩
  have loop : codeAny (model X.prog X.w) X.A (.compLoop (.DictComp kx vx [⟨tg, iter, ifs, 0⟩] scope pos) 0 (.ref it) (.ref D) ce) (compPost (model X.prog X.w) X.A X.xe use Qf (.ref D) z3.heap.objs.size) z4 := by
    refine compLoop_anyD (fun n t => ∃ i G, L2.Inv (X.blk z3 H3 scope ce fp) [] (wipe σ (own.map (·.2))) G t ∧ tn i t.heap ∧ (∀ c ∈ fp, G c = none) ∧ W i n G) ?_ m0 ⟨0, H3, I4, st4, free3, w0⟩
    rintro n t5 ⟨i, G5, J5, k5, n5, w5⟩
    rcases turn i n G5 w5 with ⟨stop, q⟩ | ⟨go, Nx, more, step⟩
    · refine thnF (T.done (X.blk z3 H3 scope ce fp) rfl rfl rfl hc i [] t5 _ G5 (fun _ _ => False) J5 (fpok J5 n5) k5 stop) fun r t6 ⟨er, J6⟩ => ?_
      subst er
      have back : L2.Inv X pins σ G5 t6 := I3.call' (ch := fp) J6.os J6.base J6.hok J6.bare fun c hc => let f := (f3 c hc).1.2; ⟨f.2.2.1, f.1, f.2.2.2.1, f.2.2.2.2⟩
      obtain ⟨m, ns, _⟩ := J6.loc
      have ns2 : t6.heap.Ns z3.heap.objs.size m := loc ▸ ns
      have gone : G5 z3.heap.objs.size = none := loc ▸ J6.free
      exact fin D z3.heap.objs.size t6 m G5 back q ns2 (I3.fpOk (Nat.le_refl _) gone)
    · refine thnF (T.item (X.blk z3 H3 scope ce fp) rfl rfl rfl hc i [] t5 _ G5 (fun _ _ => False) J5 (fpok J5 n5) k5 go) fun r t6 ⟨u, er, q6⟩ => ?_
      subst er
      refine thnF q6 fun _ t7 ⟨x, G7, J7, r7, y7, k7, n7⟩ => ?_
      refine thnF (pg.run _ t7 _ G7 x u _ (J7.pinned (fpok J7 n7) (T.obj _ _ k7)) r7 (step x G7 y7)) fun _ t8 ⟨τ, G8, J8, hw, q8⟩ => ?_
      refine thnF (pt.run _ t8 τ G8 _ J8 q8) fun c t9 ⟨G9, J9, q9⟩ => ?_
      have close : ∀ {t : Shared} {G : Hp}, L2.Inv (X.blk z3 H3 scope ce fp) ([] ++ pinsAt fp t7.heap) τ G t → Nx G → ∃ m, m < n ∧ ∃ i G, L2.Inv (X.blk z3 H3 scope ce fp) [] (wipe σ (own.map (·.2))) G t ∧ tn i t.heap ∧ (∀ c ∈ fp, G c = none) ∧ W i m G := fun {t G} J nx => by
        obtain ⟨m', lt', w'⟩ := more G nx
        have pin : ∀ c ∈ fp, ∀ o, t7.heap.get? c = some o → t.heap.get? c = some o ∧ G c = none := fun c hc o e =>
          let p := J.pin (c, o) (List.mem_append_right _ (List.mem_append_right _ (mem_pinsAt hc e)))
          ⟨p.1, p.2.1⟩
        refine ⟨m', lt', i + 1, G, (J.unpinned (pins := [])).weak (by rw [← hw, wipe_length]) (fun j v e => ?_), T.keep _ _ _ k7 fun c hc o e => (pin c hc o e).1, fun c hc => ?_, w'⟩
        · rw [← hw] at e
          exact (wipe_some e).1
        · obtain ⟨o, e, _⟩ := T.obj _ _ k7 c hc
          exact (pin c hc o e).2
      cases c with
      | false =>
        simp only [Bool.false_eq_true, if_false] at q9 ⊢
        exact close J9 q9
      | true =>
        simp only [if_true] at q9 ⊢
        refine thnF (pk.run _ t9 τ G9 _ J9 q9) fun ku t10 ⟨yk, G10, J10, r10, q10⟩ => ?_
        refine thnF (pv.run _ t10 τ G10 _ J10 q10) fun vu t11 ⟨yv, G11, J11, r11, kvs, k, b, ek, hb, hD, few, nx⟩ => ?_
        subst ek
        cases (show ku = Value.ref b from r10)
        exact put_tup (X := X.blk z3 H3 scope ce fp) hu J11 hD hb few r11 fun t12 J12 => close J12 nx
  exact codeAny_compStart_dict loop (T.self X.A 0 _ _ _ st4 loop)
/-- y = {k: v for ..}, the keys tuples, y a plain local -/
theorem ps_setDt {i : Nat} {y : Str} {py pos spos : Pos} {kx vx tg iter : Expr} {ifs : List Expr} {scope : Scope} {own : List (Str × Nat)} {wi : TI} {g : TG} {tt : TT} {tk tv : TE}
    (hu : X.A.units + 1 < cLine) (hc : X.calm = true) (hN : X.N.Nodup) (hy : X.N[i]? = some y) (hyl : X.env.scope.names.lookup y = some .local) (hsw : swapsWith (.DictComp kx vx [⟨tg, iter, ifs, 0⟩] scope pos) (some (.Name y py)) spos.line X.env = pure true)
    (hi : PI X tg iter wi) (ok : BlkOk X.N X.env.scope scope own)
    (hg : ∀ s H C cl fp, PG (X.blk s H scope (compEnvC scope cl C X.env) fp) tg g) (ht : ∀ s H C cl fp, PTs (X.blk s H scope (compEnvC scope cl C X.env) fp) ifs tt)
    (hk : ∀ s H C cl fp, PE (X.blk s H scope (compEnvC scope cl C X.env) fp) kx tk) (hv : ∀ s H C cl fp, PE (X.blk s H scope (compEnvC scope cl C X.env) fp) vx tv)
    (hs : ∀ x, foldedSetIterable iter X.env x = pure x := by intro _; rfl) :
    PS X (.Assign [.Name y py] (.DictComp kx vx [⟨tg, iter, ifs, 0⟩] scope pos) spos) (tAsg (tDt wi g tt tk tv (own.map (·.2))) (gName i)) := by
  refine ⟨fun pins s σ H D I h => ?_⟩
  rw [exec_Assign_Name_used _ _ _ _ hsw]
  refine wpAny_bind (wpAny_standAt (wpAny_bind (wpAny_bind (m := comprehension _ _ _ _ newDict false (eval iter X.env) (some (assign (.Name y py) X.env))) (thn ?_ fun _ z q => wpAny_pure (wpAny_pure q)))))
  refine dt_core (Qf := fun _ z => SP X pins D .next z) hu hc hN I hi ok hg ht hk hv hs (Q := fun x H1 => gName i x σ H1 D.nx) h fun L C z m H2 I2 q ns fp => ?_
  show wpAny _ _ (assign (.Name y py) X.env (.ref L)) _ _ _
  refine wpAny_assign_Name (store_ok2 (v := V.ref L) I2 hN hy (.inl hyl) rfl (fun z2 J ⟨a, sb, ha⟩ => ?_) (.inr hyl))
  obtain ⟨f0, f1, f2, f3, f4, f5⟩ := fp
  have ne : C ≠ a := ha.elim (fun e => e ▸ f1) fun e q => f4 y a e q.symm
  exact ⟨m, ns.sameBut sb ne, fun h3 sb3 => ⟨_, H2, J.turned (t' := z2.toks) (fun b o hb e => (sb3.2 b hb).trans e) f0 f1 f3 f4 f5, q⟩⟩
end
end UD

namespace UD
open PySem PySem.Spec PyProof.Rows L2 UW UP
/-! ### the order of pairs of texts -/
def ltP (p q : Str × Str) : Bool := if p.1 = q.1 then ltS p.2 q.2 else ltS p.1 q.1
def leP (p q : Str × Str) : Bool := !ltP q p
theorem ltS_asy {x y : Str} (h : ltS x y = true) : ltS y x = false := by
  cases q : ltS y x
  · rfl
  · have := ltS_tr h q
    rw [ltS_irr] at this
    cases this
theorem leP_iff (p q : Str × Str) : leP p q = true ↔ ltS p.1 q.1 = true ∨ (p.1 = q.1 ∧ leS p.2 q.2 = true) := by
  unfold leP ltP
  by_cases e : q.1 = p.1
  · rw [if_pos e]
    refine ⟨fun h => .inr ⟨e.symm, h⟩, fun h => ?_⟩
    rcases h with h | h
    · rw [e, ltS_irr] at h
      cases h
    · exact h.2
  · rw [if_neg e]
    refine ⟨fun h => .inl (ltS_or ?_ e), fun h => ?_⟩
    · rw [Bool.not_eq_true'] at h
      exact h
    · rcases h with h | h
      · rw [ltS_asy h]
        rfl
      · exact absurd h.1.symm e
theorem leP_tr {p q r : Str × Str} (h : leP p q = true) (g : leP q r = true) : leP p r = true := by
  rw [leP_iff] at *
  rcases h with h | ⟨h, h2⟩
  · rcases g with g | ⟨g, _⟩
    · exact .inl (ltS_tr h g)
    · rw [← g]
      exact .inl h
  · rcases g with g | ⟨g, g2⟩
    · rw [h]
      exact .inl g
    · exact .inr ⟨h.trans g, leS_tr h2 g2⟩
theorem leP_anti {p q : Str × Str} (h : leP p q = true) (g : leP q p = true) : p = q := by
  rw [leP_iff] at *
  rcases h with h | ⟨h, h2⟩
  · rcases g with g | ⟨g, _⟩
    · rw [ltS_asy h] at g
      cases g
    · rw [g, ltS_irr] at h
      cases h
  · rcases g with g | ⟨_, g2⟩
    · rw [h, ltS_irr] at g
      cases g
    · exact Prod.ext h (leS_anti h2 g2)
theorem leP_tot (p q : Str × Str) : (leP p q || leP q p) = true := by
  rw [Bool.or_eq_true, leP_iff, leP_iff]
  by_cases e : p.1 = q.1
  · rcases leS_tot p.2 q.2 with h | h
    · exact .inl (.inr ⟨e, h⟩)
    · exact .inr (.inr ⟨e.symm, h⟩)
  · cases h : ltS p.1 q.1
    · exact .inr (.inl (ltS_or h e))
    · exact .inl (.inl rfl)
/-- sorted(pairs) -/
def srtP (ds : List (Str × Str)) : List (Str × Str) := ds.mergeSort leP
theorem srtP_perm (ds : List (Str × Str)) : (srtP ds).Perm ds := List.mergeSort_perm ..
theorem srtP_pw (ds : List (Str × Str)) : (srtP ds).Pairwise fun x y => leP x y = true := List.pairwise_mergeSort (le := leP) (fun a b c h g => leP_tr h g) leP_tot ds
theorem srtP_uniq {ds es : List (Str × Str)} (p : es.Perm ds) (h : es.Pairwise fun x y => leP x y = true) : es = srtP ds := pw_uniq (fun _ _ a b => leP_anti a b) (p.trans (srtP_perm ds).symm) h (srtP_pw ds)
theorem srtP_congr {ds es : List (Str × Str)} (p : es.Perm ds) : srtP es = srtP ds := srtP_uniq ((srtP_perm es).trans p) (srtP_pw es)
theorem srtP_mem {d : Str × Str} {ds : List (Str × Str)} : d ∈ srtP ds ↔ d ∈ ds := (srtP_perm ds).mem_iff
theorem srtP_len (ds : List (Str × Str)) : (srtP ds).length = ds.length := (srtP_perm ds).length_eq
theorem le_data (a b : Str × Str) : PySem.W.dataLe false enc2 a b = leP a b := by
  show (!PySem.W.dataLt (enc2 b) (enc2 a)) = leP a b
  have e : PySem.W.dataLt (enc2 b) (enc2 a) = PySem.W.DatumOrd.lt b a := PySem.W.DatumOrd.lt_eq b a
  rw [e]
  rfl
/-! ### lists of pairs that stand by themselves -/
inductive PrH (H : Hp) : List V → List (Str × Str) → Prop
  | nil : PrH H [] []
  | cons {t : Addr} {d : Str × Str} {xs : List V} {ds : List (Str × Str)} : H t = some (.tup [.str d.1, .str d.2]) → PrH H xs ds → PrH H (.ref t :: xs) (d :: ds)
section
variable {K : PySem.W.Frag} {H H' : Hp} {xs ys : List V} {ds es : List (Str × Str)}
theorem PrH.prs (h : PrH H xs ds) : Prs K H xs ds := by
  induction h with
  | nil => exact .nil
  | cons a _ ih => exact .cons (SqT.of a) ih
theorem PrH.same (h : PrH H xs ds) (s : Same H H') : PrH H' xs ds := by
  induction h with
  | nil => exact .nil
  | cons a _ ih => exact .cons (s _ _ a) ih
theorem PrH.keep {q : Addr} (h : PrH H xs ds) (k : Kp q H H') (n : NotTup H q) : PrH H' xs ds := by
  induction h with
  | nil => exact .nil
  | cons a _ ih => exact .cons (k _ _ a (n.ne a)) ih
theorem PrH.len (h : PrH H xs ds) : xs.length = ds.length := (h.prs (K := default)).len
theorem PrH.app (h : PrH H xs ds) (g : PrH H ys es) : PrH H (xs ++ ys) (ds ++ es) := by
  induction h with
  | nil => exact g
  | cons a _ ih => exact .cons a ih
theorem PrH.get {i : Nat} {x : V} (h : PrH H xs ds) (e : xs[i]? = some x) : ∃ t d, x = .ref t ∧ ds[i]? = some d ∧ H t = some (.tup [.str d.1, .str d.2]) := by
  induction h generalizing i with
  | nil => simp at e
  | @cons t d _ _ a _ ih =>
    cases i with
    | zero =>
      cases e
      exact ⟨t, d, rfl, rfl, a⟩
    | succ i => exact ih e
def RH (H : Hp) (u : Value) (d : Str × Str) : Prop := ∃ t, u = .ref t ∧ H t = some (.tup [.str d.1, .str d.2])
theorem PrH.each (h : PrH H xs ds) {us : List Value} (r : Vals xs us) : PySem.W.EachIs (RH H) us ds := by
  induction h generalizing us with
  | nil =>
    cases r
    exact .nil
  | cons a _ ih =>
    cases r with
    | cons r1 r2 => exact .cons ⟨_, r1, a⟩ (ih r2)
theorem each_prH {us : List Value} (h : PySem.W.EachIs (RH H) us ds) : ∃ xs, Vals xs us ∧ PrH H xs ds := by
  induction h with
  | nil => exact ⟨[], .nil, .nil⟩
  | cons a _ ih =>
    obtain ⟨xs, r, p⟩ := ih
    obtain ⟨t, rfl, ht⟩ := a
    exact ⟨.ref t :: xs, .cons rfl r, .cons ht p⟩
end
section
variable {X : Cx}
/-- sorted(xs), xs a list of pairs of texts -/
def rSortP (K : PySem.W.Frag) : List V → Hp → VK → Prop := fun vs H Q => ∃ (a : Addr) (xs : List V) (ds : List (Str × Str)), vs = [.ref a] ∧ SqL K H a xs ∧ PrH H xs ds ∧ ds.length ≤ 1000 ∧
  ∀ p ys, H p = none → PrH H ys (srtP ds) → Q (.ref p) (upd H p (.lst ys))
theorem each_reads {pins : List (Addr × Obj)} {σ : L2.St} {H : Hp} {s : Shared} (I : L2.Inv X pins σ H s) {xs : List V} {ds : List (Str × Str)} {us : List Value} (h : PrH H xs ds) (r : Vals xs us) : PySem.W.EachIs (fun v b => ∃ as, PySem.Reads s.heap v (enc2 b) as) us ds := by
  obtain ⟨as, hr⟩ := Dp.readsAll I (ds.map enc2) _ _ (h.prs (K := X.K)).dp r
  exact PySem.W.readsAll_each enc2 hr
theorem sort_eq (ds : List (Str × Str)) : ds.mergeSort (PySem.W.dataLe false enc2) = srtP ds := by
  have : PySem.W.dataLe false enc2 = leP := funext fun a => funext fun b => le_data a b
  rw [this]
  rfl
theorem depth2 (d : Str × Str) : PyData.depth (enc2 d) = 1 := by
  unfold enc2
  simp only [PyData.depth, PyData.depthAll, Nat.max_self]
theorem alike2 (ds : List (Str × Str)) : PySem.W.AllAlike (ds.map enc2) := PySem.W.AllAlike.of fun a b => PySem.W.DatumOrd.alike a b
theorem sortable2 (ds : List (Str × Str)) : PySem.W.Sortable (ds.map enc2) := PySem.W.Sortable.tuples fun b => ⟨_, _, rfl⟩
theorem cr_sortP (hu : X.A.units + 64 < cLine) : CallR X (.builtin "sorted") (rSortP X.K) := by
  intro pins s σ H vs us Q I r h
  obtain ⟨a, xs, ds, rfl, hs, hp, few, q⟩ := h
  obtain ⟨its, rv, hl, _⟩ := I.list hs
  rw [Vals.ref1 r]
  refine PySem.W.sorted_data (R := RH H) (enc := enc2) hl.isList (hp.each rv) (each_reads I hp rv) (alike2 ds) (sortable2 ds) (Nat.le_of_lt (small1000 few)) (fun b _ => by rw [depth2]; omega) fun out hlen ho => ?_
  rw [sort_eq] at ho
  obtain ⟨ys, ry, py⟩ := each_prH ho
  obtain ⟨ep, he⟩ := PyProof.Rows.sortedAll_at s.heap its out.toArray
  refine ⟨.ref _, upd H (s.heap.objs.size + 1) (.lst ys), I.laid (t' := s.toks) (fun _ _ => PyProof.Rows.sortedAll_old) (Nat.le_succ _) ⟨?_, out, ep, ry, he⟩, rfl, q _ ys (I.hok.fresh (Nat.le_succ _)) py⟩
  rw [py.len, srtP_len]
  exact Nat.le_of_lt (small1000 few)
end
end UD

namespace UD
open PySem PySem.Spec PyProof.Rows L2 UW UP
theorem readsAll2 {h : Heap} {l : List Value} {x y : Str} {as : List Addr} (r : PySem.ReadsAll h l [.str x, .str y] as) : as = [] := by
  cases r with
  | cons r5 r6 =>
    cases r5
    cases r6 with
    | cons r7 r8 =>
      cases r7
      cases r8
      rfl
theorem reads2 {h : Heap} {v : Value} {d : Str × Str} {as : List Addr} (r : PySem.Reads h v (enc2 d) as) : as = [] := by
  unfold enc2 at r
  cases r with
  | tuple _ _ _ r4 => exact readsAll2 r4
def key2 (d : Str × Str) : List Key := [Sum.inr d.1, Sum.inr d.2]
theorem keys_prH {H : Hp} : ∀ {kvs : List (List Key × V)} {bs : List Addr} {ds : List (Str × Str)}, IsKeys H kvs bs → kvs.map (·.1) = ds.map key2 → PrH H (bs.map V.ref) ds
  | _, _, [], .nil, _ => .nil
  | _, _, d :: ds, .nil, e => by simp at e
  | _, _, [], .cons _ _, e => by simp at e
  | _, _, d :: ds, .cons h t, e => by
    rw [List.map_cons, List.map_cons] at e
    injection e with e1 e2
    rw [List.map_cons]
    refine .cons ?_ (keys_prH t e2)
    rw [e1] at h
    exact h
section
variable {X : Cx}
/-- sorted(d), the keys of d pairs of texts -/
def rSortDT : List V → Hp → VK → Prop := fun vs H Q => ∃ (a : Addr) (kvs : List (List Key × V)) (ds : List (Str × Str)), vs = [.ref a] ∧ Rd H a (.dT kvs) ∧ kvs.map (·.1) = ds.map key2 ∧ ds.length ≤ 1000 ∧
  ∀ p ys, H p = none → PrH H ys (srtP ds) → Q (.ref p) (upd H p (.lst ys))
theorem cr_sortDT (hc : X.calm = true) (hu : X.A.units + 64 < cLine) : CallR X (.builtin "sorted") rSortDT := by
  intro pins s σ H vs us Q I r h
  obtain ⟨a, kvs, ds, rfl, hd, hkeys, few, q⟩ := h
  rw [Vals.ref1 r]
  obtain ⟨_, nsys, ks, pr, o, es, ep, ho, hx, hdt, he, _⟩ := (show ObjOk X.prog X.w H s.heap a (.dT kvs) from hd.ok I.hok)
  have l1 : es.size = ks.length := size_of_entries he
  have l2 : kvs.length = ks.length := Paired.length pr
  have l3 : kvs.length = ds.length := by
    have := congrArg List.length hkeys
    rw [List.length_map, List.length_map] at this
    exact this
  have room : ds.length ≤ sizeLine := Nat.le_of_lt (small1000 few)
  refine Calls.call_function_entry PyProof.Rows.kind_sorted PyProof.Rows.plain_sorted PyProof.Rows.entry_sorted (PyProof.Rows.args_sorted1 _) ?_
  unfold Builtin.«sorted»
  refine wpAny_bind (m := checkCount "sorted" 1 1 _) (wpAny_pure ?_)
  refine wpAny_bind (PySem.W.kdu_collect (A := X.A.in1) (kdl_raw nsys hx hdt) (I.ok.hd hc) ho (by omega) fun h2 tk acc keep items => ?_)
  have hacc : acc.toList = (ks.map fun x => x.2.1).map Value.ref := by
    have len : acc.toList.length = ks.length := by
      rw [Array.length_toList, items.1]
      exact l1
    rw [List.map_map]
    refine List.ext_getElem? fun j => ?_
    rw [List.getElem?_map]
    rcases Nat.lt_or_ge j ks.length with c | c
    · have hj : acc.toList[j]? = some acc.toList[j] := List.getElem?_eq_getElem (by omega)
      obtain ⟨en, hen, hv⟩ := items.2 j _ (by rw [← Array.getElem?_toList]; exact hj)
      have qe := entry_at he j
      rw [hen, List.getElem?_eq_getElem c] at qe
      rw [hj, hv, List.getElem?_eq_getElem c, Option.some.inj qe]
      rfl
    · rw [List.getElem?_eq_none (by omega), List.getElem?_eq_none c]
      rfl
  have I1 : L2.Inv X pins σ H { s with heap := h2, toks := tk } := I.kept keep
  have pH := keys_prH (isKeys_of pr) hkeys
  have rv : Vals ((ks.map fun x => x.2.1).map V.ref) acc.toList := by
    rw [hacc]
    exact vals_refs _
  have alen : acc.toList.length = ds.length := by rw [← rv.length, pH.len]
  refine wpAny_bind (wpAny_newList ?_ (by rw [alen]; exact room))
  have here : (h2.push (seqObj "list" acc.toList.toArray 0)).get? h2.objs.size = some (seqObj "list" acc.toList.toArray 0) := Heap.get?_push_size _ rfl
  have reads : PySem.W.EachIs (fun v b => ∃ as, PySem.Reads (h2.push (seqObj "list" acc.toList.toArray 0)) v (enc2 b) as ∧ h2.objs.size ∉ as) acc.toList ds :=
    (each_reads I1 pH rv).mono fun v b ⟨as, rd⟩ => ⟨as, PyProof.Rows.Reads.keeps (fun _ _ e => Heap.get?_push_of_some _ e) rd, by rw [reads2 rd]; simp⟩
  refine wpAny_bind (wpAny_holding (PySem.W.list_sort_data (A := X.A.in1) (s := { s with heap := h2.push (seqObj "list" acc.toList.toArray 0), toks := tk }) (R := RH H) (enc := enc2) here (pH.each rv) reads (alike2 ds) (sortable2 ds) room (fun b _ => by rw [depth2]; show X.A.units + 1 + 1 + 1 < cLine; omega) fun out hlen hout => ?_))
  rw [sort_eq] at hout
  obtain ⟨ys, ry, py⟩ := each_prH hout
  obtain ⟨e2, at2⟩ := PyProof.Rows.sortedHeap_at (vs := acc.toList) (out := out.toArray) here
  refine wpAny_pure ⟨_, rfl, .ref h2.objs.size, upd H h2.objs.size (.lst ys), I1.laid (t' := tk) (fun b u e => ?_) (Nat.le_refl _) ⟨?_, out, e2, ry, at2⟩, rfl, q _ ys (I1.hok.fresh (Nat.le_refl _)) py⟩
  · have lt : b < h2.objs.size := Heap.lt_size e
    rw [PyProof.Rows.sortedHeap_old (Nat.ne_of_lt lt) (by rw [size_push']; exact Nat.lt_succ_of_lt lt)]
    exact Heap.get?_push_of_some _ e
  · rw [py.len, srtP_len]
    exact room
end
end UD

namespace UD
open PySem L2 UW UP
theorem NotTup.dT {H : Hp} {q : Addr} {kvs : List (List Key × V)} (h : H q = some (.dT kvs)) : NotTup H q := fun ys e => by rw [h] at e; cases e
/-- a comprehension with tuple keys, walked -/
theorem dt_it {J : It} {n : Nat} {G : Hp → Prop} {Y : Nat → Hp → V → Hp → Prop} (w : Walk J n G Y) {g : TG} {tt : TT} {tk tv : TE} {vs : List Nat} {σ : L2.St} {H1 : Hp} {D : Addr} {Qd : Hp → Prop} (Pv : Nat → Hp → Prop) (h0 : Pv 0 (upd H1 D (.dT []))) (hG : ∀ i H, i ≤ n → Pv i H → G H)
    (hs : ∀ i x H H', i < n → Pv i H → Y i H x H' → g x (wipe σ vs) H' fun σ2 H2 => wipe σ2 vs = wipe σ vs ∧ tt σ2 H2 fun c H3 =>
      if c = true then tk σ2 H3 fun y H4 => tv σ2 H4 fun z H5 => ∃ kvs k b, y = .ref b ∧ H5 b = some (.tup (k.map kV)) ∧ H5 D = some (.dT kvs) ∧ kvs.length < sizeLine ∧ Pv (i + 1) (upd H5 D (.dT (putK kvs k z))) else Pv (i + 1) H3)
    (hd : ∀ H, Pv n H → Qd H) :
    ∃ W : Nat → Nat → Hp → Prop, (∃ m, W 0 m (upd H1 D (.dT []))) ∧ ∀ i m H, W i m H →
      (J.stop i H ∧ Qd H) ∨ (J.go i H ∧ ∃ Nx : Hp → Prop, (∀ H', Nx H' → ∃ m', m' < m ∧ W (i + 1) m' H') ∧ ∀ x H', J.yld i H x H' → g x (wipe σ vs) H' fun σ2 H2 => wipe σ2 vs = wipe σ vs ∧ tt σ2 H2 fun c H3 =>
        if c = true then tk σ2 H3 fun y H4 => tv σ2 H4 fun z H5 => ∃ kvs k b, y = .ref b ∧ H5 b = some (.tup (k.map kV)) ∧ H5 D = some (.dT kvs) ∧ kvs.length < sizeLine ∧ Nx (upd H5 D (.dT (putK kvs k z))) else Nx H3) := by
  refine ⟨fun i m H => i ≤ n ∧ m = n - i ∧ Pv i H, ⟨n, Nat.zero_le _, rfl, h0⟩, fun i m H ⟨hi, e, p⟩ => ?_⟩
  subst e
  have gH := hG i H hi p
  rcases Nat.lt_or_eq_of_le hi with lt | e
  · exact .inr ⟨w.goes i H lt gH, Pv (i + 1), fun H' p' => ⟨n - (i + 1), by omega, lt, rfl, p'⟩, fun x H' y => hs i x H H' lt p (w.yields i H x H' lt gH y)⟩
  · subst e
    exact .inl ⟨w.stops H gH, hd H p⟩
theorem key2_inj {a b : Str × Str} (h : key2 a = key2 b) : a = b := by
  unfold key2 at h
  injection h with h1 h2
  injection h2 with h2 _
  exact Prod.ext (Sum.inr.inj h1) (Sum.inr.inj h2)
theorem key2_mem {d : Str × Str} {es : List (Str × Str)} : key2 d ∈ es.map key2 ↔ d ∈ es :=
  ⟨fun h => by obtain ⟨e, he, q⟩ := List.mem_map.mp h; rw [← key2_inj q]; exact he, fun h => List.mem_map.mpr ⟨d, h, rfl⟩⟩
/-- whether a pair is a key -/
theorem val2 {kvs : List (List Key × V)} {es : List (Str × Str)} (h : kvs.map (·.1) = es.map key2) (d : Str × Str) : (valV kvs (key2 d)).isSome = decide (d ∈ es) := by
  rw [← valV_any]
  by_cases c : d ∈ es
  · rw [decide_eq_true c, List.any_eq_true]
    have : key2 d ∈ kvs.map (·.1) := by
      rw [h]
      exact key2_mem.mpr c
    obtain ⟨p, hp, e⟩ := List.mem_map.mp this
    exact ⟨p, hp, decide_eq_true e⟩
  · rw [decide_eq_false c, Bool.eq_false_iff]
    intro z
    obtain ⟨p, hp, e⟩ := List.any_eq_true.mp z
    refine c (key2_mem.mp ?_)
    rw [← h, ← of_decide_eq_true e]
    exact List.mem_map.mpr ⟨p, hp, rfl⟩
theorem put2_new {kvs : List (List Key × V)} {es : List (Str × Str)} (h : kvs.map (·.1) = es.map key2) {d : Str × Str} (hd : d ∉ es) (v : V) : (putK kvs (key2 d) v).map (·.1) = (es ++ [d]).map key2 := by
  have e := val2 h d
  rw [decide_eq_false hd] at e
  rw [putK_new v (Option.not_isSome_iff_eq_none.mp (by rw [e]; exact Bool.false_ne_true)), List.map_append, List.map_append, h]
  rfl
theorem put2_old {kvs : List (List Key × V)} {es : List (Str × Str)} (h : kvs.map (·.1) = es.map key2) {d : Str × Str} (hd : d ∈ es) (v : V) : (putK kvs (key2 d) v).map (·.1) = es.map key2 := by
  have e := val2 h d
  rw [decide_eq_true hd, ← valV_any] at e
  unfold putK
  rw [if_pos e, List.map_map, ← h]
  refine List.map_congr_left fun p _ => ?_
  show (if p.1 = key2 d then (p.1, v) else p).1 = p.1
  split <;> rfl
theorem len2 {kvs : List (List Key × V)} {es : List (Str × Str)} (h : kvs.map (·.1) = es.map key2) : kvs.length = es.length := by
  have := congrArg List.length h
  rw [List.length_map, List.length_map] at this
  exact this
theorem snoc_nodup {α : Type} {l : List α} {x : α} (h : l.Nodup) (n : x ∉ l) : (l ++ [x]).Nodup := by
  rw [List.nodup_append]
  exact ⟨h, List.nodup_cons.mpr ⟨by simp, List.nodup_nil⟩, fun a ha b hb e => n (by rw [← List.mem_singleton.mp hb, ← e]; exact ha)⟩
end UD
/-! own layer: sets of texts put together and taken from one another: xs | ys, xs - ys -/
set_option maxHeartbeats 1600000
namespace UV
open PySem
/-! ### where a clean table lays its entries -/
/-- so many leaps from a place -/
def goOn (m : Nat) : Nat × Nat → Nat → Nat × Nat
  | q, 0 => q
  | q, n + 1 => goOn m (SetTable.leap m q.1 q.2) n
theorem goOn_add (m : Nat) : ∀ (a c : Nat) (q : Nat × Nat), goOn m q (a + c) = goOn m (goOn m q a) c
  | 0, c, q => by rw [Nat.zero_add]; rfl
  | a + 1, c, q => by
    rw [Nat.succ_add]
    exact goOn_add m a c _
theorem goOn_rest (m : Nat) : ∀ (n : Nat) (q : Nat × Nat), (goOn m q n).2 = q.2 / 32 ^ n
  | 0, q => by simp [goOn]
  | n + 1, q => by
    have := goOn_rest m n (SetTable.leap m q.1 q.2)
    rw [Nat.pow_succ, Nat.mul_comm, ← Nat.div_div_eq_div_mul]
    exact this
theorem goOn_le (m : Nat) : ∀ (n : Nat) (q : Nat × Nat), q.1 ≤ m → (goOn m q n).1 ≤ m
  | 0, q, h => h
  | n + 1, q, _ => goOn_le m n _ (Nat.le_of_lt_succ (Nat.mod_lt _ (Nat.succ_pos m)))
/-- the sizes (less one) of the tables that are met here -/
def Msk (m : Nat) : Prop := m = 7 ∨ m = 15 ∨ m = 31 ∨ m = 63 ∨ m = 127
def tour (m : Nat) : Nat → Nat × Nat → List Nat
  | 0, _ => []
  | n + 1, q => q.1 :: tour m n (SetTable.leap m q.1 q.2)
theorem tour_mem (m : Nat) : ∀ (n : Nat) (q : Nat × Nat) (j : Nat), j ∈ tour m n q → ∃ c, c < n ∧ (goOn m q c).1 = j
  | n + 1, q, j, h => by
    rcases List.mem_cons.mp h with e | e
    · exact ⟨0, Nat.succ_pos n, e.symm⟩
    · obtain ⟨c, h1, h2⟩ := tour_mem m n _ j e
      exact ⟨c + 1, Nat.succ_lt_succ h1, h2⟩
/-- from the first place on all places are met, and the way is round -/
def roundB (m : Nat) : Bool := (goOn m (0, 0) (m + 1) == (0, 0)) && (List.range (m + 1)).all fun j => (tour m (m + 1) (0, 0)).contains j
theorem round_of {m : Nat} (h : Msk m) : roundB m = true := by
  rcases h with rfl | rfl | rfl | rfl | rfl <;> decide +kernel
theorem from_zero {m j : Nat} (hm : Msk m) (hj : j ≤ m) : ∃ c, c ≤ m ∧ (goOn m (0, 0) c).1 = j := by
  have two := Bool.and_eq_true_iff.mp (round_of hm)
  have has := List.all_eq_true.mp two.2 j (List.mem_range.mpr (Nat.lt_succ_of_le hj))
  obtain ⟨c, h1, h2⟩ := tour_mem m _ _ j (List.contains_iff_mem.mp has)
  exact ⟨c, Nat.le_of_lt_succ h1, h2⟩
theorem from_any {m i j : Nat} (hm : Msk m) (hi : i ≤ m) (hj : j ≤ m) : ∃ c, c ≤ m ∧ (goOn m (i, 0) c).1 = j := by
  obtain ⟨a, a1, a2⟩ := from_zero hm hi
  obtain ⟨b, b1, b2⟩ := from_zero hm hj
  have home : goOn m (0, 0) (m + 1) = (0, 0) := eq_of_beq (Bool.and_eq_true_iff.mp (round_of hm)).1
  have here : goOn m (0, 0) a = (i, 0) := by
    have rest := goOn_rest m a (0, 0)
    rw [Nat.zero_div] at rest
    exact Prod.ext a2 rest
  by_cases le : a ≤ b
  · refine ⟨b - a, by omega, ?_⟩
    rw [← here, ← goOn_add, Nat.add_sub_cancel' le]
    exact b2
  · refine ⟨m + 1 + b - a, by omega, ?_⟩
    rw [← here, ← goOn_add, Nat.add_sub_cancel' (by omega), goOn_add, home]
    exact b2
theorem meets {m j : Nat} (hm : Msk m) (h : Int) (hj : j ≤ m) : ∃ k, k < SetTable.turns m ∧ (goOn m (SetTable.bits h % (m + 1), SetTable.bits h) k).1 = j := by
  have small : SetTable.bits h < 2 ^ 64 := by
    unfold SetTable.bits
    have := Int.emod_lt_of_pos h (show (0 : Int) < 2 ^ 64 by decide)
    have := Int.emod_nonneg h (show (2 ^ 64 : Int) ≠ 0 by decide)
    omega
  generalize SetTable.bits h = b at small ⊢
  have rest := goOn_rest m 13 (b % (m + 1), b)
  have none : b / 32 ^ 13 = 0 := Nat.div_eq_of_lt (Nat.lt_of_lt_of_le small (by decide))
  have le := goOn_le m 13 (b % (m + 1), b) (Nat.le_of_lt_succ (Nat.mod_lt _ (Nat.succ_pos m)))
  obtain ⟨c, c1, c2⟩ := from_any hm le hj
  refine ⟨13 + c, by unfold SetTable.turns; omega, ?_⟩
  rw [goOn_add]
  have e : goOn m (b % (m + 1), b) 13 = ((goOn m (b % (m + 1), b) 13).1, 0) := Prod.ext rfl (rest.trans none)
  rw [e]
  exact c2
/-! ### a free place is found, and it is free -/
theorem find_some {m : Nat} {owner : Array (Option Nat)} : ∀ (n k : Nat) (q : Nat × Nat), k < n → (owner.getD (goOn m q k).1 (some 0)).isNone = true → ∃ j, SetTable.layClean.free m owner n q.1 q.2 = some j
  | n + 1, k, q, lt, no => by
    unfold SetTable.layClean.free
    split
    · exact ⟨_, rfl⟩
    · rename_i all
      cases k with
      | zero =>
        have ge : q.1 ≤ SetTable.runEnd m q.1 := by
          unfold SetTable.runEnd
          split <;> omega
        have := List.find?_eq_none.mp all 0 (List.mem_range.mpr (by omega))
        rw [Nat.add_zero] at this
        exact absurd no this
      | succ k => exact find_some n k (SetTable.leap m q.1 q.2) (Nat.lt_of_succ_lt_succ lt) no
theorem find_free {m : Nat} {owner : Array (Option Nat)} {j : Nat} : ∀ (n i p : Nat), SetTable.layClean.free m owner n i p = some j → (owner.getD j (some 0)).isNone = true
  | 0, i, p, h => by
    unfold SetTable.layClean.free at h
    cases h
  | n + 1, i, p, h => by
    unfold SetTable.layClean.free at h
    split at h
    · rename_i k found
      cases h
      exact (List.find?_some (p := fun k => (owner.getD (i + k) (some 0)).isNone) found)
    · exact find_free n _ _ h
/-! ### the entries, one behind another -/
/-- the owners of the places: each of the first k once -/
def Held (m : Nat) (owner : Array (Option Nat)) (k : Nat) : Prop := owner.size = m + 1 ∧ (owner.toList.filterMap id).Perm (List.range k)
theorem gap : ∀ l : List (Option Nat), (l.filterMap id).length < l.length → ∃ j : Nat, l[j]? = some none
  | none :: l, _ => ⟨0, rfl⟩
  | some x :: l, h => by
    have h : (l.filterMap id).length + 1 < l.length + 1 := h
    obtain ⟨j, hj⟩ := gap l (Nat.lt_of_succ_lt_succ h)
    exact ⟨j + 1, hj⟩
theorem filled (k : Nat) : ∀ (l : List (Option Nat)) (j : Nat), l[j]? = some none → ((l.set j (some k)).filterMap id).Perm (k :: l.filterMap id)
  | x :: l, 0, h => by
    cases h
    exact List.Perm.refl _
  | none :: l, j + 1, h => filled k l j h
  | some y :: l, j + 1, h => by
    exact ((filled k l j h).cons y).trans (List.Perm.swap k y _)
theorem at_none {owner : Array (Option Nat)} {j : Nat} (h : (owner.getD j (some 0)).isNone = true) : owner.toList[j]? = some none := by
  rw [Array.getD_eq_getD_getElem?] at h
  rw [Array.getElem?_toList]
  cases e : owner[j]? with
  | none => rw [e] at h; cases h
  | some o =>
    rw [e] at h
    cases o with
    | none => rfl
    | some _ => cases h
def lay1 (m : Nat) (acc : Option (Array (Option Nat) × Nat)) (h : Int) : Option (Array (Option Nat) × Nat) := do
  let (owner, k) ← acc
  let j ← SetTable.layClean.free m owner (SetTable.turns m) (SetTable.bits h % (m + 1)) (SetTable.bits h)
  pure (owner.setIfInBounds j (some k), k + 1)
theorem lay1_held {m k : Nat} {owner : Array (Option Nat)} (hm : Msk m) (H : Held m owner k) (le : k ≤ m) (h : Int) : ∃ owner', lay1 m (some (owner, k)) h = some (owner', k + 1) ∧ Held m owner' (k + 1) := by
  obtain ⟨size, each⟩ := H
  have fewer : (owner.toList.filterMap id).length < owner.toList.length := by
    rw [each.length_eq, List.length_range, Array.length_toList, size]
    omega
  obtain ⟨j0, hj0⟩ := gap _ fewer
  have in0 : j0 ≤ m := by
    have := (List.getElem?_eq_some_iff.mp hj0).1
    rw [Array.length_toList, size] at this
    omega
  obtain ⟨c, c1, c2⟩ := meets hm h in0
  obtain ⟨j, hj⟩ := find_some (owner := owner) _ c _ c1 (by
    rw [c2, Array.getD_eq_getD_getElem?, ← Array.getElem?_toList, hj0]
    rfl)
  have open_ := at_none (find_free _ _ _ hj)
  refine ⟨owner.setIfInBounds j (some k), ?_, by rw [Array.size_setIfInBounds]; exact size, ?_⟩
  · unfold lay1
    show (SetTable.layClean.free m owner (SetTable.turns m) (SetTable.bits h % (m + 1)) (SetTable.bits h)).bind _ = _
    rw [hj]
    rfl
  · rw [Array.toList_setIfInBounds, List.range_succ]
    exact (filled k _ j open_).trans ((each.cons k).trans (List.perm_append_singleton k _).symm)
theorem lay_held {m : Nat} (hm : Msk m) : ∀ (hs : List Int) (owner : Array (Option Nat)) (k : Nat), Held m owner k → k + hs.length ≤ m + 1 → ∃ owner', hs.foldl (lay1 m) (some (owner, k)) = some (owner', k + hs.length) ∧ Held m owner' (k + hs.length)
  | [], owner, k, H, _ => ⟨owner, rfl, H⟩
  | h :: hs, owner, k, H, le => by
    rw [List.length_cons] at le
    obtain ⟨o1, e1, H1⟩ := lay1_held hm H (by omega) h
    obtain ⟨o2, e2, H2⟩ := lay_held hm hs o1 (k + 1) H1 (by omega)
    rw [Nat.add_assoc, Nat.add_comm 1] at e2 H2
    exact ⟨o2, by rw [List.foldl_cons, e1]; exact e2, H2⟩
theorem live_owners (l : List (Option Nat)) : ((List.range l.length).filterMap fun j => (l[j]?.getD none).map (j, ·)).map (·.2) = l.filterMap id := by
  rw [List.map_filterMap]
  have e := List.filterMap_getElem?_range_length l
  have f : l.filterMap id = ((List.range l.length).filterMap (fun i => l[i]?)).filterMap id := by rw [e]
  rw [f, List.filterMap_filterMap]
  congr 1
  funext j
  cases l[j]? with
  | none => rfl
  | some o => cases o <;> rfl
/-- a clean table for so many hashes as there is room: its order has each of them once -/
theorem laid_ok {m finger moves : Nat} {led plain : Bool} {hs : Array Int} (hm : Msk m) (few : hs.size ≤ m) :
    ∃ t order, SetTable.laid m finger moves led plain hs = some (t, order) ∧ order.toList.Perm (List.range hs.size) ∧ L2.Ris t.place.toList ∧ t.place.size = hs.size ∧ t.dummies = #[] ∧ t.mask = m ∧ t.led = led := by
  have start : Held m (Array.replicate (m + 1) none) 0 := by
    refine ⟨Array.size_replicate, ?_⟩
    rw [Array.toList_replicate]
    have : ∀ n : Nat, (List.replicate n (none : Option Nat)).filterMap id = [] := fun n => by
      induction n with
      | zero => rfl
      | succ n ih => rw [List.replicate_succ, List.filterMap_cons_none rfl, ih]
    rw [this]
    exact List.Perm.refl _
  obtain ⟨owner, e, H⟩ := lay_held hm hs.toList _ 0 start (by rw [Array.length_toList]; omega)
  rw [Nat.zero_add, Array.length_toList] at e H
  have clean : SetTable.layClean m hs = some owner := by
    unfold SetTable.layClean
    rw [← Array.foldl_toList]
    have : hs.toList.foldl (lay1 m) (some (Array.replicate (m + 1) none, 0)) = some (owner, hs.size) := e
    show (hs.toList.foldl (lay1 m) (some (Array.replicate (m + 1) none, 0))).map (·.1) = some owner
    rw [this]
    rfl
  have size : owner.toList.length = m + 1 := by rw [Array.length_toList]; exact H.1
  have owners := live_owners owner.toList
  rw [size] at owners
  have same : (fun j => (owner.getD j none).map (Prod.mk j)) = fun j => (owner.toList[j]?.getD none).map (Prod.mk j) := by
    funext j
    rw [Array.getD_eq_getD_getElem?, Array.getElem?_toList]
  have ris := (L2.ris_live (fun j => owner.getD j none) (List.range (m + 1)) List.pairwise_lt_range).1
  refine ⟨_, _, by unfold SetTable.laid; rw [clean]; rfl, ?_, ris, ?_, rfl, rfl, rfl⟩
  · show (((List.range (m + 1)).filterMap fun j => (owner.getD j none).map (Prod.mk j)).map (·.2)).Perm _
    rw [same, owners]
    exact H.2
  · show (((List.range (m + 1)).filterMap fun j => (owner.getD j none).map (Prod.mk j)).map (·.1)).length = _
    rw [List.length_map, ← List.length_map (f := (·.2)), same, owners, H.2.length_eq, List.length_range]
/-- what a size asked for comes to -/
def aboveB (n : Nat) : Bool := [7, 15, 31, 63, 127].contains (SetTable.sizeAbove n - 1) && decide (n < SetTable.sizeAbove n) && decide (SetTable.sizeAbove n ≤ 128)
theorem above_ok {n : Nat} (h : n < 128) : Msk (SetTable.sizeAbove n - 1) ∧ n ≤ SetTable.sizeAbove n - 1 ∧ SetTable.sizeAbove n ≤ 128 := by
  have all : (List.range 128).all aboveB = true := by decide +kernel
  have one := List.all_eq_true.mp all n (List.mem_range.mpr h)
  unfold aboveB at one
  rw [Bool.and_eq_true, Bool.and_eq_true] at one
  obtain ⟨⟨h1, h2⟩, h3⟩ := one
  have lt := of_decide_eq_true h2
  have le := of_decide_eq_true h3
  refine ⟨?_, by omega, le⟩
  have := List.contains_iff_mem.mp h1
  unfold Msk
  simpa using this
end UV
/-! own layer: sets of texts that can be walked: set(xs), sorted of it, xs | ys, xs - ys -/
set_option maxHeartbeats 1600000
namespace UZ
open PySem PySem.Spec PyProof.Rows L2
/-! ### the entries of a set of texts, and its table -/
def keyT (e : Int × Value) : Str := match e.2 with
  | .str x _ => x
  | _ => Str.empty
def Tx (w : World) (e : Int × Value) : Prop := ∃ x tk, e.2 = Value.str x tk ∧ e.1 = hashStr w x
/-- entries and table of a set of these texts, each once -/
structure Gd (w : World) (es : Array (Int × Value)) (t : SetTable) (xs : List Str) : Prop where
  tx : ∀ e ∈ es.toList, Tx w e
  keys : (es.toList.map keyT).Perm xs
  nd : xs.Nodup
  few : es.size < scanBound
  fit : t.fits es.size = true
  ris : Ris t.place.toList
  led : w.params.followText "set-order" = true ∨ t.led = true
/-- what stands at a: a set with these entries, this count of changes, this table -/
def At (h : Heap) (a : Addr) (es : Array (Int × Value)) (ep : Nat) (t : SetTable) : Prop := ∃ o, h.get? a = some o ∧ o.ExactSet ∧ o.data = .set es ep t
/-- the set at a: these texts, each once; its table can be walked -/
def SetT (w : World) (h : Heap) (a : Addr) (xs : List Str) : Prop := ∃ es ep t, At h a es ep t ∧ Gd w es t xs
section
variable {P : Program} {w : World} {A : Around} {E : Value → Shared → Prop} {s : Shared} {h h' : Heap} {a : Addr} {xs ys : List Str} {es fs : Array (Int × Value)} {t u : SetTable} {ep : Nat} {x : Str} {tk : Tok}
theorem At.at (R : At h a es ep t) (k : ∀ o, h.get? a = some o → h'.get? a = some o) : At h' a es ep t := by
  obtain ⟨o, ho, r⟩ := R
  exact ⟨o, k o ho, r⟩
theorem At.is (R : At s.heap a es ep t) : s.TypeIs (.ref a) "set" := by
  obtain ⟨o, ho, ex, _⟩ := R
  exact ⟨o, ho, ex.1⟩
theorem SetT.at (R : SetT w h a xs) (k : ∀ o, h.get? a = some o → h'.get? a = some o) : SetT w h' a xs := by
  obtain ⟨es, ep, t, H, G⟩ := R
  exact ⟨es, ep, t, H.at k, G⟩
theorem SetT.is (R : SetT w s.heap a xs) : s.TypeIs (.ref a) "set" := by
  obtain ⟨_, _, _, R, _⟩ := R
  exact R.is
theorem Gd.size (G : Gd w es t xs) : es.size = xs.length := by rw [← G.keys.length_eq, List.length_map, Array.length_toList]
theorem Gd.elems (G : Gd w es t xs) : ElemsOf (strKind P w) es.toList := fun e he => by
  obtain ⟨x, tk, e1, e2⟩ := G.tx e he
  rw [e1, e2]
  exact ⟨⟨x, Froz.is_str x tk, rfl⟩, rfl⟩
theorem Gd.line (G : Gd w es t xs) : es.size ≤ sizeLine := fits_of_scanBound G.few
/-- other places of the same entries -/
theorem Gd.moved (G : Gd w es t xs) (p : fs.toList.Perm es.toList) (fit : u.fits fs.size = true) (ris : Ris u.place.toList) (led : w.params.followText "set-order" = true ∨ u.led = true) : Gd w fs u xs where
  tx e he := G.tx e (p.mem_iff.mp he)
  keys := (p.map keyT).trans G.keys
  nd := G.nd
  few := by
    have := p.length_eq
    rw [Array.length_toList, Array.length_toList] at this
    exact this ▸ G.few
  fit := fit
  ris := ris
  led := led
/-- one entry more -/
theorem Gd.more (G : Gd w es t xs) (no : x ∉ xs) (room : xs.length + 1 < scanBound) (p : fs.toList.Perm (es.push (hashStr w x, .str x tk)).toList) (fit : u.fits fs.size = true) (ris : Ris u.place.toList) (led : w.params.followText "set-order" = true ∨ u.led = true) : Gd w fs u (x :: xs) := by
  rw [Array.toList_push] at p
  have q := p.trans (List.perm_append_singleton _ _)
  have keys := (q.map keyT).trans (G.keys.cons x)
  refine ⟨fun e he => ?_, keys, List.nodup_cons.mpr ⟨no, G.nd⟩, ?_, fit, ris, led⟩
  · rcases List.mem_cons.mp (q.mem_iff.mp he) with rfl | old
    · exact ⟨x, tk, rfl, rfl⟩
    · exact G.tx e old
  · have := keys.length_eq
    rw [List.length_map, Array.length_toList] at this
    rw [this]
    exact room
theorem Gd.key (G : Gd w es t xs) {e : Int × Value} (he : e ∈ es.toList) : (strKind P w).is x e.2 = true ↔ keyT e = x := by
  obtain ⟨y, tk, e1, _⟩ := G.tx e he
  unfold keyT
  rw [e1]
  show Value.isStrOf x (.str y tk) = true ↔ y = x
  simp [Value.isStrOf]
/-- where it is found -/
theorem Gd.there (G : Gd w es t xs) {j : Nat} (found : List.findIdx? (fun e => (strKind P w).is x e.2) es.toList = some j) : ∃ e, es.toList[j]? = some e ∧ keyT e = x ∧ x ∈ xs := by
  obtain ⟨lt, is, _⟩ := List.findIdx?_eq_some_iff_getElem.mp found
  have k := (G.key (List.getElem_mem lt)).mp is
  exact ⟨_, List.getElem?_eq_getElem lt, k, G.keys.mem_iff.mp (List.mem_map.mpr ⟨_, List.getElem_mem lt, k⟩)⟩
theorem Gd.gone (G : Gd w es t xs) (found : List.findIdx? (fun e => (strKind P w).is x e.2) es.toList = none) : x ∉ xs := fun z => by
  obtain ⟨e, he, k⟩ := List.mem_map.mp (G.keys.mem_iff.mpr z)
  have no := List.findIdx?_eq_none_iff.mp found e he
  rw [(G.key he).mpr k] at no
  cases no
/-! ### its parts are read, and stored -/
theorem At.state {Q : Array (Int × Value) × Nat × SetTable → Shared → Prop} (R : At s.heap a es ep t) (fit : t.fits es.size = true) (q : Q (es, ep, t) s) : wpAny (model P w) A (setState a) Q E s := by
  obtain ⟨o, ho, _, hd⟩ := R
  exact wpAny_setState_of ho hd fit q
theorem At.store {Q : Unit → Shared → Prop} (R : At s.heap a es ep t) (few : fs.size ≤ sizeLine) (q : ∀ h', Heap.SameBut a s.heap h' → At h' a fs (ep + 1) u → Q () { s with heap := h' }) : wpAny (model P w) A (storeSet a fs u) Q E s := by
  obtain ⟨o, ho, ex, hd⟩ := R
  exact wpAny_storeSet_of ho hd (q _ (Heap.SameBut.update s.heap a _) ⟨_, store_at ho hd, ex, rfl⟩) few
/-- what is found -/
theorem At.scan {Q : ScanMet → Shared → Prop} {adding : Bool} (R : At s.heap a es ep t) (G : Gd w es t xs) (yes : ∀ j e, es.toList[j]? = some e → keyT e = x → x ∈ xs → Q (.found (0 + j)) s) (no : x ∉ xs → Q .absent s) :
    wpAny (model P w) A (setScan a (.str x tk) (hashStr w x) adding es) Q E s := by
  obtain ⟨o, ho, _, hd⟩ := R
  refine wpAny_setScan_of (knd := strKind P w) (k := x) (Froz.is_str x tk) ho hd G.fit G.elems ?_
  cases found : List.findIdx? (fun e => (strKind P w).is x e.2) es.toList with
  | some j =>
    obtain ⟨e, h1, h2, h3⟩ := G.there found
    exact yes j e h1 h2 h3
  | none => exact no (G.gone found)
/-- one text more -/
def ins (x : Str) (xs : List Str) : List Str := if x ∈ xs then xs else x :: xs
theorem lay_tail {g : Bool → Sem Unit} (calm : ∀ (b : Bool) (s' : Shared) (Q' : Unit → Shared → Prop), Q' () s' → wpAny (model P w) A (g b) Q' E s') (R : At s.heap a es ep t) (G : Gd w fs u ys) {dummy : Bool} {Q : Option Bool → Shared → Prop}
    (fin : ∀ h', Heap.SameBut a s.heap h' → SetT w h' a ys → Q (some true) { s with heap := h' }) :
    wpAny (model P w) A (do storeSet a fs u; if (!dummy && u.tooFull) = true then (do g (relayAll u fs (SetTable.grown fs.size)).2.2; storeSet a (relayAll u fs (SetTable.grown fs.size)).1 (relayAll u fs (SetTable.grown fs.size)).2.1; pure (some true)) else pure (some true)) Q E s := by
  refine wpAny_bind (R.store G.line fun h1 only1 R1 => ?_)
  split
  · have again : Gd w (relayAll u fs (SetTable.grown fs.size)).1 (relayAll u fs (SetTable.grown fs.size)).2.1 ys := G.moved (relayAll_perm ..) (relayAll_fits ..) (relayAll_ris ..) (by rw [relayAll_led]; exact G.led)
    exact wpAny_bind (calm _ _ _ (wpAny_bind (R1.store again.line fun h2 only2 R2 => wpAny_pure (fin h2 (only1.trans only2) ⟨_, _, _, R2, again⟩))))
  · exact wpAny_pure (fin h1 only1 ⟨_, _, _, R1, G⟩)
theorem SetT.add {Q : Bool → Shared → Prop} (R : SetT w s.heap a xs) (room : xs.length + 1 < scanBound) (fin : ∀ h', Heap.SameBut a s.heap h' → SetT w h' a (ins x xs) → Q (!decide (x ∈ xs)) { s with heap := h' }) : wpAny (model P w) A (setAddHashed a (.str x tk) (hashStr w x)) Q E s := by
  obtain ⟨es, ep, t, R, G⟩ := R
  unfold setAddHashed setAddHashedIn setAddByScan
  refine wpAny_holding (wpAny_bind (R.state G.fit ?_))
  dsimp only
  rw [byScan_of (knd := strKind P w) rfl G.few G.elems, if_pos rfl]
  refine wpAny_bind (wpAny_bind (wpAny_rule (wpAny_bind (R.scan G (fun j e _ _ yes => ?_) fun no => ?_))))
  · have same : ins x xs = xs := if_pos yes
    rw [same, decide_eq_true yes] at fin
    exact wpAny_pure (wpAny_pure (fin s.heap (Heap.SameBut.refl a s.heap) ⟨es, ep, t, R, G⟩))
  · have grown : ins x xs = x :: xs := if_neg no
    rw [grown, decide_eq_false no] at fin
    have N : Gd w (layNew t es (hashStr w x) (.str x tk)).1 (layNew t es (hashStr w x) (.str x tk)).2.1 (x :: xs) := G.more (tk := tk) no room (layNew_perm ..) (layNew_fits ..) (layNew_ris _ _ _ _ G.ris) (by rw [layNew_led]; exact G.led)
    generalize layNew t es (hashStr w x) (.str x tk) = Z at N ⊢
    obtain ⟨fs, u, dummy, gave⟩ := Z
    have calm : ∀ (b : Bool) (s' : Shared) (Q' : Unit → Shared → Prop), Q' () s' → wpAny (model P w) A (match b with | true => rule "set.scan.the-table-gave-way" | false => pure ()) Q' E s' := fun b s' Q' q => by
      cases b
      · exact wpAny_pure q
      · exact wpAny_rule q
    have off : Gd w fs { u with plain := false } (x :: xs) := N.moved (List.Perm.refl _) (SetTable.fits_plain_off N.fit) N.ris N.led
    dsimp only
    refine wpAny_bind (calm gave _ _ ?_)
    have last : ∀ u', Gd w fs u' (x :: xs) → ∀ Z : Sem (Option Bool), Z = _ → wpAny (model P w) A Z (fun r s' => wpAny (model P w) A (match r with | some b => pure b | none => setAddHashedIn a (.str x tk) (hashStr w x) 99999) Q E s') E s := fun u' N' Z e => by
      rw [e]
      exact lay_tail (dummy := dummy) calm R N' fun h' only made => wpAny_pure (fin h' only made)
    by_cases pl : u.plain = true
    · rw [if_pos pl, hashByValue_scannable 8 (show (Value.str x tk).scannable = true from rfl)]
      refine wpAny_bind (wpAny_pure ?_)
      exact last _ off _ rfl
    · rw [if_neg pl]
      refine wpAny_bind (wpAny_pure ?_)
      exact last _ N _ rfl
end
/-! ### a set of the items of a list or a tuple -/
/-- the set of all these texts -/
def Of (w : World) (h : Heap) (a : Addr) (xs : List Str) : Prop := ∃ ds : List Str, (∀ x, x ∈ ds ↔ x ∈ xs) ∧ ds.length ≤ xs.length ∧ SetT w h a ds
section
variable {P : Program} {w : World} {A : Around} {E : Value → Shared → Prop} {s : Shared} {h h' : Heap} {a : Addr} {xs ys : List Str} {x : Str}
theorem Of.at (R : Of w h a xs) (k : ∀ o, h.get? a = some o → h'.get? a = some o) : Of w h' a xs := by
  obtain ⟨ds, h1, h2, h3⟩ := R
  exact ⟨ds, h1, h2, h3.at k⟩
theorem mem_ins {y : Str} : y ∈ ins x xs ↔ y = x ∨ y ∈ xs := by
  unfold ins
  split
  · rename_i yes
    exact ⟨.inr, fun z => z.elim (fun e => e ▸ yes) id⟩
  · exact List.mem_cons
theorem len_ins : (ins x xs).length ≤ xs.length + 1 := by
  unfold ins
  split
  · exact Nat.le_succ _
  · exact Nat.le_refl _
theorem any_no {v : Value} {T : String} {Q : Bool → Shared → Prop} (ty : s.TypeIs v T) (n1 : isSubtype (.type T) (.type "set") = pure false) (n2 : isSubtype (.type T) (.type "frozenset") = pure false) (q : Q false s) : wpAny (model P w) A (Builtin.Frozenset.isAnySet v) Q E s :=
  wpAny_bind (wpAny_isInstance ty n1 (wpAny_isInstance ty n2 q))
theorem any_yes {v : Value} {Q : Bool → Shared → Prop} (ty : s.TypeIs v "set") (q : Q true s) : wpAny (model P w) A (Builtin.Frozenset.isAnySet v) Q E s := wpAny_bind (wpAny_isInstance ty sub_set_self (wpAny_pure q))
/-- the items to come are put in, one behind another -/
theorem loopT {I S : Addr} {fp wr : List Addr} {G : Array GenState → Array GenState → Prop} {Pv : Nat → Value → Prop} {St : Nat → Shared → Prop} {R : Result → Shared → Prop} (xs : List Str)
    (W : WalksS P w A.in1 I fp wr G xs.length Pv St) (off : S ∉ fp) (room : xs.length + 1 < scanBound) (hv : ∀ i v, Pv i v → ∃ x t, xs[i]? = some x ∧ v = .str x t) (fin : ∀ s', Moved (S :: wr) G s s' → Of w s'.heap S xs → R (.ok (.ret .none)) s') :
    ∀ (left i : Nat) (z : Shared), i + left = xs.length → Moved (S :: wr) G s z → St i z → Of w z.heap S (xs.take i) → codeAny (model P w) A (.builtin "set.update.loop" ⟨[.ref S, .ref I], []⟩) R z
  | 0, i, z, e, mv, st, so => by
    have off' : S ∉ wr := fun y => off (W.sub _ y)
    refine codeAny_builtin PyProof.Rows.F.entry_set_update_loop ?_
    rw [Around.under_plainId PyProof.Rows.F.plain_set_update_loop _]
    obtain rfl : i = xs.length := e
    rw [List.take_length] at so
    refine wpAny_bind (m := pyNext (.ref I)) (W.done z _ _ st fun z' mv' => wpAny_pure (fin z' (mv.trans W.gtrans (mv'.mono fun c hc => List.mem_cons_of_mem _ hc)) (so.at fun o ho => mv'.heap S o off' ho)))
  | left + 1, i, z, e, mv, st, so => by
    have off' : S ∉ wr := fun y => off (W.sub _ y)
    refine codeAny_builtin PyProof.Rows.F.entry_set_update_loop ?_
    rw [Around.under_plainId PyProof.Rows.F.plain_set_update_loop _]
    refine wpAny_bind (m := pyNext (.ref I)) (W.item i z _ _ (by omega) st fun v z' hP st' mv' => ?_)
    obtain ⟨x, t, hx, rfl⟩ := hv i v hP
    obtain ⟨ds, d1, d2, d3⟩ := so.at (h' := z'.heap) fun o ho => mv'.heap S o off' ho
    rw [List.length_take] at d2
    unfold setAdd
    refine wpAny_bind (wpAny_holding (wpAny_holding (wpAny_bind ((strKind P w).pyHash (k := x) (Froz.is_str x t) (SetT.add (s := { z' with toks := z'.toks + 1 }) d3 (by omega) fun h2 only d4 => wpAny_pure ⟨plainId_quiet PyProof.Rows.F.plain_set_update_loop _, ?_⟩)))))
    have keep : ∀ c, c ≠ S → ∀ o, z'.heap.get? c = some o → h2.get? c = some o := fun c hc o ho => (only.2 c hc).trans ho
    refine loopT xs W off room hv fin left (i + 1) _ (by omega) (mv.trans W.gtrans ((mv'.mono fun c hc => List.mem_cons_of_mem _ hc).then_heap (Nat.le_succ _) fun c o hc ho => keep c (fun y => hc (y ▸ List.mem_cons_self)) o ho)) (W.frame _ z' _ _ st' (Nat.le_succ _) fun c hc o ho => keep c (fun y => off (y ▸ hc)) o ho) ⟨_, fun y => ?_, ?_, d4⟩
    · rw [mem_ins, d1, List.take_add_one, hx, List.mem_append, Option.toList_some, List.mem_singleton]
      exact Or.comm
    · have := len_ins (x := x) (xs := ds)
      rw [List.length_take]
      omega
/-- S.update(l), S new, l a list or a tuple of texts -/
theorem fromSeq {S l : Addr} {its : Array Value} (id : String) (xs : List Str) {Q : Unit → Shared → Prop} (hh : A.handled = none) (src : s.heap.IsList l its ∨ s.heap.IsTuple l its) (hv : ∀ (i : Nat) (v : Value), its[i]? = some v → ∃ x t, xs[i]? = some x ∧ v = Value.str x t) (hn : its.size = xs.length) (room : xs.length + 1 < scanBound)
    (new : SetT w s.heap S []) (fin : ∀ h' tk, Of w h' S xs → (∀ b o, b ≠ S → s.heap.get? b = some o → h'.get? b = some o) → Q () { s with heap := h', toks := tk }) : wpAny (model P w) A (Builtin.Frozenset.updateFrom id S (.ref l)) Q E s := by
  have isS : ∃ o, s.heap.get? S = some o ∧ o.cls = .type "set" := by
    obtain ⟨_, _, _, ⟨o, ho, ex, _⟩, _⟩ := new
    exact ⟨o, ho, ex.1⟩
  obtain ⟨oS, hS, cS⟩ := isS
  have ltS : S < s.heap.objs.size := Heap.lt_size hS
  have walk : ∀ (o : Obj) {St : Nat → Heap → Prop}, (S ≠ l) → (∀ A' : Around, A'.handled = none → Walks P w A' s.heap.objs.size [s.heap.objs.size, l] [s.heap.objs.size] its.size (fun i v => its[i]? = some v) St) → St 0 (s.heap.push o) →
      wpAny (model P w) A (do let _ ← runValue (.builtin "set.update.loop" ⟨[.ref S, .ref s.heap.objs.size], []⟩); pure ()) Q E { s with heap := s.heap.push o } := fun o St ne W st => by
    refine wpAny_bind (wpAny_runValue ?_)
    have W1 := (W A.in1 hh).toS
    rw [hn] at W1
    refine loopT (s := { s with heap := s.heap.push o }) xs W1 (fun y => ?_) room hv (fun z mv so => ?_) xs.length 0 _ (Nat.zero_add _) (Moved.refl W1.grefl) st ?_
    · rcases List.mem_cons.mp y with e | e
      · exact absurd e (Nat.ne_of_lt ltS)
      · exact ne (List.mem_singleton.mp e)
    · obtain ⟨h2, g2, d2, tk2, os2⟩ := z
      obtain rfl : g2 = s.gens := mv.gens
      obtain rfl : d2 = s.drawn := mv.drawn
      obtain rfl : os2 = s.os := mv.os
      refine wpAny_pure (fin h2 tk2 so fun b ob nb hb => mv.heap b ob (fun y => ?_) (Heap.get?_push_of_some _ hb))
      rcases List.mem_cons.mp y with e | e
      · exact nb e
      · exact absurd (List.mem_singleton.mp e) (Nat.ne_of_lt (Heap.lt_size hb))
    · exact ⟨[], fun x => by simp, Nat.zero_le _, new.at fun ob hb => Heap.get?_push_of_some _ hb⟩
  have apart : ∀ {T : String}, (Value.type "set" == Value.type T) = false → ∀ {ol : Obj}, s.heap.get? l = some ol → ol.cls = .type T → S ≠ l := fun {T} no {ol} hl cl e => by
    subst e
    rw [hl] at hS
    cases hS
    rw [cl] at cS
    rw [cS] at no
    simp at no
  unfold Builtin.Frozenset.updateFrom
  rcases src with il | il
  · obtain ⟨ol, hol, hcl, rest⟩ := il
    have ty : s.TypeIs (.ref l) "list" := ⟨ol, hol, hcl⟩
    refine wpAny_bind (any_no ty PySem.F.sub_list_set PySem.F.sub_list_frozenset ?_)
    rw [if_neg (by decide)]
    refine wpAny_bind (wpAny_typeOf ty ?_)
    rw [if_neg (by decide)]
    refine wpAny_bind (wpAny_pyIter_list ⟨ol, hol, hcl, rest⟩ ?_)
    exact walk _ (apart (T := "list") (by decide) hol hcl) (fun A' hA => Walks.list hA _ l (Nat.ne_of_lt (Heap.lt_size hol)) its) ⟨⟨_, Heap.get?_push_size _ rfl, rfl, rfl⟩, Heap.IsList.push ⟨ol, hol, hcl, rest⟩ _⟩
  · obtain ⟨ol, hol, hcl, rest⟩ := il
    have ty : s.TypeIs (.ref l) "tuple" := ⟨ol, hol, hcl⟩
    refine wpAny_bind (any_no ty PySem.F.sub_tuple_set PySem.F.sub_tuple_frozenset ?_)
    rw [if_neg (by decide)]
    refine wpAny_bind (wpAny_typeOf ty ?_)
    rw [if_neg (by decide)]
    refine wpAny_bind (wpAny_pyIter_tuple ⟨ol, hol, hcl, rest⟩ ?_)
    exact walk _ (apart (T := "tuple") (by decide) hol hcl) (fun A' hA => Walks.tuple hA _ l (Nat.ne_of_lt (Heap.lt_size hol)) its) ⟨⟨_, Heap.get?_push_size _ rfl, rfl, rfl⟩, Heap.IsTuple.push ⟨ol, hol, hcl, rest⟩ _⟩
/-- an empty set, new -/
theorem new_set {Q : Value → Shared → Prop} (fin : ∀ h' t, (∀ b o, s.heap.get? b = some o → h'.get? b = some o) → h'.objs.size = s.heap.objs.size + 1 → At h' s.heap.objs.size #[] 0 t → Gd w #[] t [] → t.mask = 7 → t.dummies = #[] → Q (.ref s.heap.objs.size) { s with heap := h' }) : wpAny (model P w) A (newSet (.type "set")) Q E s := by
  unfold newSet setsByText
  refine wpAny_bind (wpAny_bind (wpAny_askSetting (wpAny_pure ?_)))
  show wpAny _ _ (newObj (.type "set") _) _ _ _
  unfold newObj
  refine wpAny_bind (wpAny_alloc (wpAny_pure (fin _ _ (fun b o e => Heap.get?_push_of_some _ e) (Heap.size_push ..) ⟨_, Heap.get?_push_size _ rfl, ⟨rfl, rfl, rfl⟩, rfl⟩ ?_ rfl rfl)))
  refine ⟨fun e he => by simp at he, List.Perm.refl _, List.nodup_nil, by decide, by rfl, List.Pairwise.nil, ?_⟩
  show _ ∨ (!w.params.followText "set-order") = true
  cases w.params.followText "set-order"
  · exact .inr rfl
  · exact .inl rfl
/-- set.__new__(set, v) -/
theorem new_code (v : Value) {Q : Value → Shared → Prop} (fin : ∀ h', (∀ b o, s.heap.get? b = some o → h'.get? b = some o) → ∀ t, At h' s.heap.objs.size #[] 0 t → Gd w #[] t [] → t.mask = 7 → t.dummies = #[] → Q (.ref s.heap.objs.size) { s with heap := h' }) : codeAny (model P w) A (.call (.builtin "set.__new__") ⟨[.type "set", v], []⟩) (wants Q E) s := by
  refine codeAny_of_tree ?_
  show wpAny _ A.in1 (checkBuiltinCall _ _ >>= fun _ => again _) _ _ s
  refine wpAny_bind (wpAny_of_eq (PySem.F.newCall_set_1 v) (wpAny_pure ⟨plainId_quiet PySem.F.plain_set_new _, codeAny_builtin PySem.F.entry_set_new ?_⟩))
  rw [Around.under_plainId PySem.F.plain_set_new _]
  unfold Builtin.«set.__new__» Builtin.Frozenset.newClass
  have own := sub_set_self
  generalize hN : newSet = N
  wp_walk
  subst hN
  exact new_set fun h' t keep _ R G seven d => wpAny_pure (fin h' keep t R G seven d)
end
/-! ### put together -/
section
variable {P : Program} {w : World} {A : Around} {E : Value → Shared → Prop} {s : Shared} {h h' : Heap} {a o : Addr} {xs ys : List Str} {es fs : Array (Int × Value)} {t u : SetTable} {ep : Nat} {x : Str} {tk : Tok}
/-- the entries, laid anew by a clean table -/
theorem Gd.laid (G : Gd w es t xs) {m : Nat} (finger moves : Nat) (led plain : Bool) (hm : UV.Msk m) (few : es.size ≤ m) (hl : w.params.followText "set-order" = true ∨ led = true) :
    ∃ u order, SetTable.laid m finger moves led plain (es.map (·.1)) = some (u, order) ∧ (order.filterMap (es[·]?)).size = es.size ∧ Gd w (order.filterMap (es[·]?)) u xs ∧ u.mask = m ∧ u.dummies = #[] := by
  obtain ⟨u, order, e, pm, ris, size, dm, mk, ld⟩ := UV.laid_ok (finger := finger) (moves := moves) (led := led) (plain := plain) (hs := es.map (·.1)) hm (by rw [Array.size_map]; exact few)
  rw [Array.size_map] at pm size
  have perm : (order.filterMap (es[·]?)).toList.Perm es.toList := by
    rw [Array.toList_filterMap]
    exact (pm.filterMap _).trans (by rw [filterMap_getElem?_range])
  have same : (order.filterMap (es[·]?)).size = es.size := by
    have := perm.length_eq
    rwa [Array.length_toList, Array.length_toList] at this
  refine ⟨u, order, e, same, G.moved perm ?_ ris (by rw [ld]; exact hl), mk, dm⟩
  unfold SetTable.fits SetTable.fill
  rw [size, same, mk, dm]
  simp
  omega
theorem At.relay {Q : Unit → Shared → Prop} {n : Nat} (R : At s.heap a es ep t) (G : Gd w es t xs) (lt : n < 128) (le : es.size ≤ n)
    (fin : ∀ h' fs u, Heap.SameBut a s.heap h' → At h' a fs (ep + 1) u → Gd w fs u xs → u.mask = SetTable.sizeAbove n - 1 → u.dummies = #[] → Q () { s with heap := h' }) : wpAny (model P w) A (setRelay a n) Q E s := by
  obtain ⟨mk, big, top⟩ := UV.above_ok lt
  obtain ⟨u, order, e, same, G2, m2, d2⟩ := G.laid t.finger (t.movedTo (SetTable.sizeAbove n - 1)) t.led t.plain mk (Nat.le_trans le big) G.led
  unfold setRelay
  refine wpAny_bind (R.state G.fit ?_)
  dsimp only
  rw [if_neg (by rw [sizeLine_eq]; omega), show t.relaid (es.map (·.1)) n = some (u, order) from e]
  refine wpAny_bind ?_
  show wpAny _ _ (if ((order.filterMap (es[·]?)).size != es.size) = true then _ else _) _ _ _
  rw [if_neg (by rw [same]; simp)]
  exact wpAny_pure (R.store G2.line fun h' only R2 => fin h' _ _ only R2 G2 m2 d2)
/-- room for more -/
theorem At.room {Q : Unit → Shared → Prop} {more : Nat} (R : At s.heap a es ep t) (G : Gd w es t xs) (mk : UV.Msk t.mask) (lt : (es.size + more) * 2 < 128)
    (fin : ∀ h' fs ep' u, Heap.SameBut a s.heap h' → At h' a fs ep' u → Gd w fs u xs → UV.Msk u.mask → more ≤ u.mask → (u.dummies = #[] ∨ u = t) → Q () { s with heap := h' }) : wpAny (model P w) A (setRoomFor a more) Q E s := by
  unfold setRoomFor
  refine wpAny_bind (R.state G.fit ?_)
  have fit := G.fit
  unfold SetTable.fits at fit
  obtain ⟨f1, f2⟩ := Bool.and_eq_true_iff.mp fit
  have place : t.place.size = es.size := beq_iff_eq.mp f1
  dsimp only
  unfold SetTable.roomFor
  split
  · rename_i wanted eq
    split at eq
    · cases eq
      have top := UV.above_ok (n := (t.place.size + more) * 2) (by rw [place]; exact lt)
      refine R.relay G (by rw [place]; exact lt) (by rw [place]; omega) fun h' fs u only R2 G2 m2 d2 => fin h' fs _ u only R2 G2 (m2 ▸ top.1) ?_ (.inl d2)
      rw [m2]
      have := top.2.1
      omega
    · cases eq
  · rename_i eq
    split at eq
    · exact (eq _ rfl).elim
    · rename_i no
      exact wpAny_pure (fin s.heap es ep t (Heap.SameBut.refl a s.heap) R G mk (by omega) (.inr rfl))
/-- its entries, in some order -/
theorem At.walk {Q : Array (Int × Value) → Shared → Prop} (R : At s.heap a es ep t) (G : Gd w es t xs) (fin : ∀ fs d, fs.toList.Perm es.toList → Q fs { s with drawn := d }) : wpAny (model P w) A (setWalk a) Q E s := by
  unfold setWalk
  refine wpAny_bind (R.state G.fit (wpAny_bind (wpAny_byText ?_)))
  by_cases by_ : w.params.followText "set-order" = true
  · rw [if_pos by_]
    exact wpAny_bind (wpAny_askSetting (wpAny_pure (fin _ _ (pick_perm _ _))))
  · rw [if_neg by_]
    split
    · exact wpAny_bind (drawOrder_at _ _ _ _ (Nat.le_of_eq Array.length_toList) fun ys d p => wpAny_pure (fin _ d p))
    · have led := G.led.resolve_left by_
      refine wpAny_bind ?_
      show wpAny _ _ (if (!t.led && decide (es.size > 1)) = true then _ else _) _ _ _
      rw [led, if_neg (by simp)]
      exact wpAny_pure (wpAny_pure (fin es s.drawn (List.Perm.refl _)))
theorem quiet {Q : Bool → Shared → Prop} (sets : List Addr) (each : ∀ b ∈ sets, ∃ es ep t xs, At s.heap b es ep t ∧ Gd w es t xs) (q : Q true s) : wpAny (model P w) A (setsQuiet sets) Q E s := by
  unfold setsQuiet
  dsimp only
  refine wpAny_bind (wpAny_forIn_list _ (fun l r z => z = s ∧ r.1 = none ∧ ∀ b ∈ l, b ∈ sets) _ (fun b rest r z hz => ?_) (fun r z hz => ?_) _ _ ⟨rfl, rfl, fun _ y => y⟩)
  · obtain ⟨rfl, hr, hin⟩ := hz
    obtain ⟨es, ep, t, xs, R, G⟩ := each b (hin b List.mem_cons_self)
    unfold setEntries
    refine wpAny_bind (wpAny_bind (R.state G.fit (wpAny_pure (wpAny_bind (wpAny_forIn_array' _ (fun l r y => y = z ∧ r.1 = none ∧ ∀ e ∈ l, Tx w e) _ (fun e more r y hy => ?_) (fun r y hy => ?_) _ _ ⟨rfl, rfl, G.tx⟩)))))
    · obtain ⟨rfl, _, tx⟩ := hy
      obtain ⟨x, tk, e1, _⟩ := tx e List.mem_cons_self
      rw [e1]
      exact wpAny_pure ⟨rfl, rfl, fun e he => tx e (List.mem_cons_of_mem _ he)⟩
    · obtain ⟨rfl, e, _⟩ := hy
      rw [e]
      exact wpAny_pure ⟨rfl, rfl, fun c hc => hin c (List.mem_cons_of_mem _ hc)⟩
  · obtain ⟨rfl, e, _⟩ := hz
    rw [e]
    exact wpAny_pure q
/-- its entries, in some order, that nobody sees; what is filled by them bears the mark -/
theorem At.unseen {Q : Array (Int × Value) → Shared → Prop} {others : List Addr} (R : At s.heap a es ep t) (G : Gd w es t xs) (each : ∀ b ∈ others, ∃ es ep t xs, At s.heap b es ep t ∧ Gd w es t xs) (fin : ∀ fs d, fs.toList.Perm es.toList → Q fs { s with drawn := d }) : wpAny (model P w) A (setWalkUnseen a others none) Q E s := by
  unfold setWalkUnseen
  refine wpAny_bind (R.state G.fit (wpAny_bind (wpAny_byText ?_)))
  dsimp only
  split
  · exact R.walk G fin
  · refine wpAny_bind (quiet _ (fun b hb => ?_) ?_)
    · rcases List.mem_cons.mp hb with rfl | hb
      · exact ⟨es, ep, t, xs, R, G⟩
      · exact each b hb
    · exact wpAny_bind (wpAny_rule (wpAny_pure (fin es s.drawn (List.Perm.refl _))))
theorem At.unseenF {Q : Array (Int × Value) → Shared → Prop} {others : List Addr} {f : Addr} {ef : Array (Int × Value)} {pf : Nat} {tf : SetTable} {zs : List Str} (R : At s.heap a es ep t) (G : Gd w es t xs) (each : ∀ b ∈ others, ∃ es ep t xs, At s.heap b es ep t ∧ Gd w es t xs) (F : At s.heap f ef pf tf) (GF : Gd w ef tf zs)
    (fin : ∀ fs d h' pf' tf', fs.toList.Perm es.toList → Heap.SameBut f s.heap h' → At h' f ef pf' tf' → Gd w ef tf' zs → tf'.mask = tf.mask → Q fs { s with heap := h', drawn := d }) : wpAny (model P w) A (setWalkUnseen a others (some f)) Q E s := by
  have stay : ∀ fs d, fs.toList.Perm es.toList → Q fs { s with drawn := d } := fun fs d p => fin fs d s.heap pf tf p (Heap.SameBut.refl f s.heap) F GF rfl
  unfold setWalkUnseen
  refine wpAny_bind (R.state G.fit (wpAny_bind (wpAny_byText ?_)))
  dsimp only
  split
  · exact R.walk G stay
  · refine wpAny_bind (quiet _ (fun b hb => ?_) ?_)
    · rcases List.mem_cons.mp hb with rfl | hb
      · exact ⟨es, ep, t, xs, R, G⟩
      · exact each b hb
    · refine wpAny_bind (wpAny_rule (wpAny_bind (F.state GF.fit ?_)))
      dsimp only
      split
      · refine wpAny_bind (F.store GF.line fun h' only F2 => wpAny_pure (fin es s.drawn h' _ _ (List.Perm.refl _) only F2 ?_ rfl))
        refine GF.moved (List.Perm.refl _) GF.fit GF.ris ?_
        rcases GF.led with y | y
        · exact .inl y
        · rcases G.led with z | z
          · exact .inl z
          · exact .inr (by rw [y, z]; rfl)
      · exact wpAny_pure (stay es s.drawn (List.Perm.refl _))
end
section
variable {P : Program} {w : World} {A : Around} {E : Value → Shared → Prop} {s : Shared} {h h' : Heap} {a o : Addr} {xs ys zs : List Str} {es fs : Array (Int × Value)} {t u : SetTable} {ep eo : Nat} {x : Str} {tk : Tok}
/-- zs has all of xs and ys, no others -/
def Both (xs ys zs : List Str) : Prop := (∀ x, x ∈ zs ↔ x ∈ xs ∨ x ∈ ys) ∧ zs.length ≤ xs.length + ys.length
/-- the keys of some entries -/
theorem Gd.key_mem (G : Gd w es t xs) {e : Int × Value} (he : e ∈ es.toList) : keyT e ∈ xs := G.keys.mem_iff.mp (List.mem_map.mpr ⟨e, he, rfl⟩)
/-- all of o's are put to a, one behind another -/
theorem one_by_one {Q : Unit → Shared → Prop} {body : Int × Value → PUnit → Sem (ForInStep PUnit)} (Ra : SetT w s.heap a xs) (Ro : At s.heap o fs eo u) (Go : Gd w fs u ys) (ne : a ≠ o) (few : xs.length + ys.length + 1 < scanBound) {gs : Array (Int × Value)} (pm : gs.toList.Perm fs.toList)
    (does : ∀ (x : Str) (tk : Tok) (z : Shared) (Q' : ForInStep PUnit → Shared → Prop) (zs : List Str), SetT w z.heap a zs → zs.length + 1 < scanBound → At z.heap o fs eo u → (∀ h', Heap.SameBut a z.heap h' → SetT w h' a (ins x zs) → At h' o fs eo u → Q' (.yield ⟨⟩) { z with heap := h' }) → wpAny (model P w) A (body (hashStr w x, .str x tk) ⟨⟩) Q' E z)
    (fin : ∀ h' zs, Heap.SameBut a s.heap h' → SetT w h' a zs → Both xs ys zs → Q () { s with heap := h' }) : wpAny (model P w) A (forIn gs ⟨⟩ body) Q E s := by
  refine wpAny_forIn_array' _ (fun l _ z => ∃ h' zs, z = { s with heap := h' } ∧ Heap.SameBut a s.heap h' ∧ SetT w h' a zs ∧ zs.length + l.length ≤ xs.length + ys.length ∧ (∀ x, x ∈ zs ∨ x ∈ l.map keyT ↔ x ∈ xs ∨ x ∈ ys) ∧ ∀ e ∈ l, Tx w e) _ (fun e rest b z hz => ?_) (fun b z hz => ?_) gs PUnit.unit ⟨s.heap, xs, rfl, Heap.SameBut.refl a s.heap, Ra, ?_, fun x => ?_, fun e he => Go.tx e (pm.mem_iff.mp he)⟩
  · obtain ⟨h1, zs, rfl, only, R1, len, mem, tx⟩ := hz
    obtain ⟨x, tk, e1, e2⟩ := tx e List.mem_cons_self
    obtain ⟨h, v⟩ := e
    simp only at e1 e2
    subst e1 e2
    rw [List.length_cons] at len
    have Ro1 : At h1 o fs eo u := Ro.at fun ob hb => (only.2 o ne.symm).trans hb
    refine does x tk { s with heap := h1 } _ zs R1 (by omega) Ro1 fun h2 only2 R2 _ => ⟨h2, _, rfl, only.trans only2, R2, ?_, fun y => ?_, fun e he => tx e (List.mem_cons_of_mem _ he)⟩
    · have := len_ins (x := x) (xs := zs)
      omega
    · rw [← mem y, mem_ins, List.map_cons, List.mem_cons]
      show (y = x ∨ y ∈ zs) ∨ _ ↔ y ∈ zs ∨ y = x ∨ _
      exact ⟨fun z => z.elim (fun z => z.elim (fun c => .inr (.inl c)) .inl) fun c => .inr (.inr c), fun z => z.elim (fun c => .inl (.inr c)) fun z => z.elim (fun c => .inl (.inl c)) .inr⟩
  · obtain ⟨h1, zs, rfl, only, R1, len, mem, _⟩ := hz
    exact fin h1 zs only R1 ⟨fun x => by rw [← mem x]; simp, by simpa using len⟩
  · have len : fs.toList.length = ys.length := Array.length_toList.trans Go.size
    have := pm.length_eq
    omega
  · exact or_congr_right (((pm.map keyT).trans Go.keys).mem_iff)
theorem merge {Q : Unit → Shared → Prop} {each : Sem Unit} (Ra : At s.heap a es ep t) (Ga : Gd w es t xs) (mk : UV.Msk t.mask) (Ro : At s.heap o fs eo u) (Go : Gd w fs u ys) (ne : a ≠ o) (lt : (es.size + fs.size) * 2 < 128)
    (calm : ∀ (z : Shared) (Q' : Unit → Shared → Prop), At z.heap o fs eo u → Q' () z → wpAny (model P w) A each Q' E z)
    (fin : ∀ h' d gs ep' v zs, Heap.SameBut a s.heap h' → At h' a gs ep' v → Gd w gs v zs → Both xs ys zs → (xs = [] → t.dummies = #[] → UV.Msk v.mask) → Q () { s with heap := h', drawn := d }) : wpAny (model P w) A (setMerge a o each) Q E s := by
  have sa := Ga.size
  have so := Go.size
  unfold setMerge
  rw [if_neg (by simpa using ne)]
  refine wpAny_bind (Ro.state Go.fit ?_)
  dsimp only
  by_cases none : fs.isEmpty = true
  · rw [if_pos none]
    obtain rfl : ys = [] := List.length_eq_zero_iff.mp (by rw [← so]; simpa using none)
    exact wpAny_pure (fin s.heap s.drawn es ep t xs (Heap.SameBut.refl a s.heap) Ra Ga ⟨fun x => by simp, by simp⟩ fun _ _ => mk)
  rw [if_neg none]
  refine wpAny_bind (Ra.room Ga mk lt fun h1 e1 p1 t1 only1 R1 G1 mk1 le1 dm1 => ?_)
  have Ro1 : At h1 o fs eo u := Ro.at fun ob hb => (only1.2 o ne.symm).trans hb
  refine wpAny_bind (R1.state (s := { s with heap := h1 }) G1.fit ?_)
  dsimp only
  have s1 := G1.size
  have led : w.params.followText "set-order" = true ∨ (t1.led && u.led) = true := by
    rcases G1.led with y | y
    · exact .inl y
    · rcases Go.led with z | z
      · exact .inl z
      · exact .inr (by rw [y, z]; rfl)
  have empty : t1.fill = 0 → xs = [] := fun f => by
    have fit := G1.fit
    unfold SetTable.fits at fit
    have place := beq_iff_eq.mp (Bool.and_eq_true_iff.mp fit).1
    unfold SetTable.fill at f
    exact List.length_eq_zero_iff.mp (by omega)
  unfold SetTable.road
  by_cases full : (t1.fill != 0) = true
  · rw [if_pos full]
    dsimp only
    refine wpAny_bind (Ro1.unseenF (s := { s with heap := h1 }) Go (fun b hb => ?_) R1 G1 fun gs d h2 p2 t2 pm only2 R2 G2 m2 => ?_)
    · obtain rfl := List.mem_singleton.mp hb
      exact ⟨_, _, _, _, R1, G1⟩
    · have Ro2 : At h2 o fs eo u := Ro1.at fun ob hb => (only2.2 o ne.symm).trans hb
      have bound : xs.length + ys.length + 1 < scanBound := by unfold scanBound; omega
      refine wpAny_bind (one_by_one (s := { s with heap := h2, drawn := d }) ⟨_, _, _, R2, G2⟩ Ro2 Go ne bound pm (fun x tk z Q' zs Rz few Rzo done => ?_) fun h3 zs only3 R3 both => ?_)
      · dsimp only
        refine wpAny_bind (wpAny_holding (Rz.add few fun h' only made => ?_))
        have back : At h' o fs eo u := Rzo.at fun ob hb => (only.2 o ne.symm).trans hb
        refine wpAny_bind (calm _ _ back (wpAny_bind (back.state (s := { z with heap := h' }) Go.fit ?_)))
        dsimp only
        rw [if_neg (by simp)]
        exact wpAny_pure (done h' only made back)
      · obtain ⟨_, _, _, R3, G3⟩ := R3
        refine wpAny_pure (fin h3 d _ _ _ zs ((only1.trans only2).trans only3) R3 G3 both fun e dm => ?_)
        · exfalso
          have : t1.fill = 0 := by
            have fit := G1.fit
            unfold SetTable.fits at fit
            have place := beq_iff_eq.mp (Bool.and_eq_true_iff.mp fit).1
            have dm2 : t1.dummies = #[] := dm1.elim id fun y => y ▸ dm
            unfold SetTable.fill
            rw [place, dm2, s1, e]
            rfl
          rw [this] at full
          simp at full
  · rw [if_neg full]
    have zero : t1.fill = 0 := by simpa using full
    obtain rfl := empty zero
    by_cases alike : (t1.mask == u.mask && u.dummies.isEmpty) = true
    · rw [if_pos alike]
      dsimp only
      have m1 : u.mask = t1.mask := (beq_iff_eq.mp (Bool.and_eq_true_iff.mp alike).1).symm
      refine R1.store (s := { s with heap := h1 }) Go.line fun h2 only2 R2 => fin h2 s.drawn _ _ _ ys (only1.trans only2) R2 (Go.moved (List.Perm.refl _) Go.fit Go.ris led) ⟨fun x => by simp, by simp⟩ fun _ _ => ?_
      show UV.Msk u.mask
      rw [m1]
      exact mk1
    · rw [if_neg alike]
      dsimp only
      obtain ⟨v, order, e, same, Gv, mv, dv⟩ := Go.laid t1.finger t1.moves (t1.led && u.led) (t1.plain && u.plain) mk1 le1 led
      rw [e]
      refine wpAny_bind ?_
      show wpAny _ _ (if ((order.filterMap (fs[·]?)).size != fs.size) = true then _ else _) _ _ _
      rw [if_neg (by rw [same]; simp)]
      exact wpAny_pure (R1.store (s := { s with heap := h1 }) Gv.line fun h2 only2 R2 => fin h2 s.drawn _ _ _ ys (only1.trans only2) R2 Gv ⟨fun x => by simp, by simp⟩ fun _ _ => mv ▸ mk1)
/-- a copy, new -/
theorem copy {Q : Value → Shared → Prop} (R : At s.heap a es ep t) (G : Gd w es t xs) (lt : es.size * 2 < 128)
    (fin : ∀ h' d gs ep' v zs, (∀ b ob, s.heap.get? b = some ob → h'.get? b = some ob) → At h' s.heap.objs.size gs ep' v → Gd w gs v zs → (∀ x, x ∈ zs ↔ x ∈ xs) → zs.length ≤ xs.length → UV.Msk v.mask → Q (.ref s.heap.objs.size) { s with heap := h', drawn := d }) : wpAny (model P w) A (Builtin.Frozenset.copyOf a) Q E s := by
  unfold Builtin.Frozenset.copyOf Builtin.Frozenset.baseOf
  refine wpAny_bind (wpAny_bind (wpAny_isInstance R.is sub_set_self (wpAny_pure ?_)))
  rw [if_pos rfl]
  refine wpAny_bind (new_set fun h1 t1 keep size1 R1 G1 m1 d1 => wpAny_bind (wpAny_pure (wpAny_bind ?_)))
  have lta : a < s.heap.objs.size := by
    obtain ⟨ob, hb, _⟩ := R
    exact Heap.lt_size hb
  refine merge (s := { s with heap := h1 }) R1 G1 (by rw [m1]; exact .inl rfl) (R.at fun ob hb => keep _ _ hb) G (Nat.ne_of_gt lta) (by simpa using lt) (fun z Q' _ q => wpAny_pure q) fun h2 d gs ep' v zs only R2 G2 both mk => wpAny_pure (fin h2 d gs ep' v zs (fun b ob hb => ?_) R2 G2 (fun x => by rw [both.1 x]; simp) (by simpa using both.2) (mk rfl d1))
  exact (only.2 b (Nat.ne_of_lt (Heap.lt_size hb))).trans (keep b ob hb)
end
section
variable {P : Program} {w : World} {A : Around} {E : Value → Shared → Prop} {s : Shared} {h h' : Heap} {a o : Addr} {xs ys zs : List Str} {es fs : Array (Int × Value)} {t u : SetTable} {ep eo : Nat} {x : Str} {tk : Tok}
theorem SetT.lt (R : SetT w h a xs) : a < h.objs.size := by
  obtain ⟨_, _, _, ⟨ob, hb, _⟩, _⟩ := R
  exact Heap.lt_size hb
theorem entry_or : entryFor table "set.__or__" = some Builtin.«frozenset.__or__» := entryFor_alias (id' := "frozenset.__or__") (by kernel_rfl) rfl (by decide +kernel) (by kernel_rfl)
theorem entry_minus : entryFor table "set.__sub__" = some Builtin.«frozenset.__sub__» := entryFor_alias (id' := "frozenset.__sub__") (by kernel_rfl) rfl (by decide +kernel) (by kernel_rfl)
/-- xs | ys -/
theorem call_or {Q : Value → Shared → Prop} (Ra : SetT w s.heap a xs) (Ro : SetT w s.heap o ys) (ne : a ≠ o) (few : (xs.length + ys.length) * 2 < 128)
    (fin : ∀ h' d zs, (∀ b ob, s.heap.get? b = some ob → h'.get? b = some ob) → SetT w h' s.heap.objs.size zs → Both xs ys zs → Q (.ref s.heap.objs.size) { s with heap := h', drawn := d }) : wpAny (model P w) A (call (.builtin "set.__or__") [.ref a, .ref o]) Q E s := by
  refine wpAny_call_entry PySem.F.slot_set_or Ra.is entry_or ?_ (PySem.F.args_set_or_2 _ _)
  show wpAny _ _ (Builtin.Frozenset.slot1 _ _ >>= _) _ _ _
  refine wpAny_bind (m := Builtin.Frozenset.slot1 _ _) (wpAny_pure ?_)
  refine wpAny_bind (wpAny_bind (any_yes Ra.is (any_yes Ro.is ?_)))
  rw [if_neg (by decide)]
  refine wpAny_bind (wpAny_pure (wpAny_bind ?_))
  show wpAny _ _ (Builtin.Frozenset.copyOf a >>= _) _ _ _
  obtain ⟨es, ep, t, Ra, Ga⟩ := Ra
  obtain ⟨fs, eo, u, Ro, Go⟩ := Ro
  have sa := Ga.size
  have so := Go.size
  have lta : a < s.heap.objs.size := SetT.lt (w := w) (xs := xs) ⟨_, _, _, Ra, Ga⟩
  have lto : o < s.heap.objs.size := SetT.lt (w := w) (xs := ys) ⟨_, _, _, Ro, Go⟩
  refine wpAny_bind (copy Ra Ga (by omega) fun h1 d1 gs p1 v ws keep R1 G1 mem len mk => ?_)
  dsimp only
  rw [if_pos (by simpa using ne.symm)]
  have Ro1 : At h1 o fs eo u := Ro.at fun ob hb => keep _ _ hb
  have s1 := G1.size
  unfold Builtin.Frozenset.updateFrom Builtin.Frozenset.merge
  refine wpAny_bind (wpAny_pure (wpAny_bind (wpAny_holding (wpAny_bind (any_yes (Ro1.is (s := { s with heap := h1, drawn := d1 })) ?_)))))
  rw [if_pos rfl]
  refine wpAny_bind (wpAny_pure (wpAny_bind ?_))
  unfold setEpoch
  refine wpAny_bind (Ro1.state (s := { s with heap := h1, drawn := d1 }) Go.fit (wpAny_pure ?_))
  refine merge (s := { s with heap := h1, drawn := d1 }) R1 G1 mk Ro1 Go (Nat.ne_of_gt lto) (by omega) (fun z Q' Rz q => ?_) fun h2 d2 ks p2 k zs only R2 G2 both _ => ?_
  · unfold Builtin.Frozenset.unchanged setEpoch
    refine wpAny_bind (wpAny_bind (Rz.state Go.fit (wpAny_pure ?_)))
    rw [if_neg (by simp)]
    exact wpAny_pure q
  · refine wpAny_pure (wpAny_pure ⟨_, rfl, fin h2 d2 zs (fun b ob hb => ?_) ⟨_, _, _, R2, G2⟩ ⟨fun x => by rw [both.1 x, mem x], by have := both.2; omega⟩⟩)
    exact (only.2 b (Nat.ne_of_lt (Heap.lt_size hb))).trans (keep b ob hb)
end
/-! ### taken from one another -/
section
variable {P : Program} {w : World} {A : Around} {E : Value → Shared → Prop} {s : Shared} {h h' : Heap} {a o : Addr} {xs ys zs : List Str} {es fs : Array (Int × Value)} {t u : SetTable} {ep eo : Nat} {x : Str} {tk : Tok}
theorem list_eraseAt {α : Type} (l : Array α) (i : Nat) : (SetTable.eraseAt l i).toList = l.toList.eraseIdx i := by
  unfold SetTable.eraseAt
  rw [Array.toList_append, Array.toList_extract, Array.toList_extract, List.eraseIdx_eq_take_drop_succ, List.extract_eq_take_drop, List.extract_eq_take_drop]
  rw [List.take_of_length_le (l := List.drop (i + 1) l.toList) (by rw [List.length_drop, Array.length_toList]; exact Nat.le_refl _)]
  simp
theorem size_eraseAt {α : Type} {l : Array α} {i : Nat} (lt : i < l.size) : (SetTable.eraseAt l i).size = l.size - 1 := by
  rw [← Array.length_toList, list_eraseAt, List.length_eraseIdx_of_lt (by rw [Array.length_toList]; exact lt), Array.length_toList]
theorem size_insertAt (l : Array Nat) (i x : Nat) (le : i ≤ l.size) : (SetTable.insertAt l i x).size = l.size + 1 := by
  unfold SetTable.insertAt
  rw [Array.size_append, Array.size_push, Array.size_extract, Array.size_extract]
  omega
theorem size_insertAt_le (l : Array Nat) (i x : Nat) : (SetTable.insertAt l i x).size ≤ l.size + 1 := by
  unfold SetTable.insertAt
  rw [Array.size_append, Array.size_push, Array.size_extract, Array.size_extract]
  omega
/-- one entry less -/
theorem Gd.drop (G : Gd w es t xs) {j : Nat} {e : Int × Value} (he : es.toList[j]? = some e) (hk : keyT e = x) : Gd w (SetTable.eraseAt es j) (t.drop j) (xs.erase x) := by
  have lt : j < es.size := by
    have := (List.getElem?_eq_some_iff.mp he).1
    rwa [Array.length_toList] at this
  have pm := erase_perm es.toList j e he
  have inx : x ∈ xs := hk ▸ G.keys.mem_iff.mp (List.mem_map.mpr ⟨e, List.mem_of_getElem? he, rfl⟩)
  have keys : (((SetTable.eraseAt es j).toList).map keyT).Perm (xs.erase x) := by
    rw [list_eraseAt]
    have two := (pm.map keyT).trans (G.keys.trans (List.perm_cons_erase inx))
    rw [List.map_cons, hk] at two
    exact two.cons_inv
  have fit := G.fit
  unfold SetTable.fits SetTable.fill at fit
  obtain ⟨f1, f2⟩ := Bool.and_eq_true_iff.mp fit
  have place : t.place.size = es.size := beq_iff_eq.mp f1
  have full := of_decide_eq_true f2
  have there : t.place[j]? = some t.place[j] := Array.getElem?_eq_getElem (by omega)
  have dropped : t.drop j = { t with place := SetTable.eraseAt t.place j, dummies := SetTable.insertAt t.dummies (SetTable.below t.dummies t.place[j]) t.place[j] } := by
    unfold SetTable.drop
    rw [there]
  refine ⟨fun d hd => G.tx d ?_, keys, G.nd.erase x, ?_, ?_, ?_, ?_⟩
  · rw [list_eraseAt] at hd
    exact List.mem_of_mem_eraseIdx hd
  · rw [size_eraseAt lt]
    have := G.few
    omega
  · unfold SetTable.fits SetTable.fill
    rw [dropped]
    have := size_insertAt_le t.dummies (SetTable.below t.dummies t.place[j]) t.place[j]
    generalize SetTable.insertAt t.dummies (SetTable.below t.dummies t.place[j]) t.place[j] = D at this ⊢
    simp only [size_eraseAt lt, size_eraseAt (l := t.place) (by omega : j < t.place.size), place]
    simp
    omega
  · rw [dropped]
    show Ris (SetTable.eraseAt t.place j).toList
    rw [list_eraseAt]
    exact List.Pairwise.sublist (List.eraseIdx_sublist _ _) G.ris
  · rw [dropped]
    exact G.led
theorem At.find {Q : Option Nat → Shared → Prop} (R : At s.heap a es ep t) (G : Gd w es t xs) (yes : ∀ j e, es.toList[j]? = some e → keyT e = x → x ∈ xs → Q (some (0 + j)) s) (no : x ∉ xs → Q none s) : wpAny (model P w) A (setFind a (.str x tk) (hashStr w x)) Q E s := by
  unfold setFind setFindIn
  refine wpAny_bind (R.state G.fit ?_)
  dsimp only
  rw [byScan_of (knd := strKind P w) rfl G.few G.elems, if_pos rfl]
  exact wpAny_bind (wpAny_rule (wpAny_bind (R.scan G (fun j e h1 h2 h3 => wpAny_pure (yes j e h1 h2 h3)) fun h3 => wpAny_pure (no h3))))
/-- one text less -/
theorem SetT.discard {Q : Bool → Shared → Prop} (R : SetT w s.heap a xs) (fin : ∀ b h', Heap.SameBut a s.heap h' → SetT w h' a (xs.erase x) → Q b { s with heap := h' }) : wpAny (model P w) A (setDiscardHashed a (.str x tk) (hashStr w x)) Q E s := by
  obtain ⟨es, ep, t, R, G⟩ := R
  unfold setDiscardHashed
  refine wpAny_bind (R.find G (fun j e h1 h2 h3 => ?_) fun no => ?_)
  · dsimp only
    rw [Nat.zero_add]
    have less := G.drop h1 h2
    refine wpAny_bind (R.state G.fit (wpAny_bind (R.store less.line fun h' only R2 => wpAny_bind (wpAny_point (wpAny_pure (fin true h' only ⟨_, _, _, R2, less⟩))))))
  · rw [List.erase_of_not_mem no] at fin
    exact wpAny_pure (fin false s.heap (Heap.SameBut.refl a s.heap) ⟨es, ep, t, R, G⟩)
/-- zs has those of xs that are not in ys -/
def Less (xs ys zs : List Str) : Prop := (∀ x, x ∈ zs ↔ x ∈ xs ∧ x ∉ ys) ∧ zs.length ≤ xs.length
theorem tidy {Q : Unit → Shared → Prop} (R : SetT w s.heap a xs) (few : xs.length < 32) (fin : ∀ h', Heap.SameBut a s.heap h' → SetT w h' a xs → Q () { s with heap := h' }) : wpAny (model P w) A (setTidy a) Q E s := by
  obtain ⟨es, ep, t, R, G⟩ := R
  have size := G.size
  unfold setTidy
  refine wpAny_bind (R.state G.fit ?_)
  dsimp only
  split
  · have grown : SetTable.grown es.size = es.size * 4 := by
      unfold SetTable.grown
      rw [if_neg (by omega)]
    rw [grown]
    exact R.relay G (by omega) (by omega) fun h' fs u only R2 G2 _ _ => fin h' only ⟨_, _, _, R2, G2⟩
  · exact wpAny_pure (fin s.heap (Heap.SameBut.refl a s.heap) ⟨es, ep, t, R, G⟩)
theorem same_epoch {Q : Unit → Shared → Prop} {id : String} (R : At s.heap a es ep t) (G : Gd w es t xs) (q : Q () s) : wpAny (model P w) A (Builtin.Frozenset.unchanged id a ep) Q E s := by
  unfold Builtin.Frozenset.unchanged setEpoch
  refine wpAny_bind (wpAny_bind (R.state G.fit (wpAny_pure ?_)))
  rw [if_neg (by simp)]
  exact wpAny_pure q
theorem size_of {Q : Nat → Shared → Prop} (R : At s.heap a es ep t) (G : Gd w es t xs) (q : Q xs.length s) : wpAny (model P w) A (Builtin.Frozenset.sizeOf a) Q E s := by
  unfold Builtin.Frozenset.sizeOf setEntries
  refine wpAny_bind (wpAny_bind (R.state G.fit (wpAny_pure (wpAny_pure ?_))))
  rw [G.size]
  exact q
/-- a without what is in o, where o is no greater than eight times a -/
theorem take_away {Q : Unit → Shared → Prop} {id : String} (Ra : SetT w s.heap a xs) (Ro : At s.heap o fs eo u) (Go : Gd w fs u ys) (ne : a ≠ o) (few : xs.length < 32) (small : ¬ ys.length / 8 > xs.length)
    (fin : ∀ h' d zs, Heap.SameBut a s.heap h' → SetT w h' a zs → Less xs ys zs → Q () { s with heap := h', drawn := d }) : wpAny (model P w) A (Builtin.Frozenset.differenceUpdate id a (.ref o)) Q E s := by
  unfold Builtin.Frozenset.differenceUpdate
  rw [if_neg (by simpa using ne.symm)]
  refine wpAny_bind (any_yes Ro.is ?_)
  rw [if_pos rfl]
  obtain ⟨es, ep, t, Ra, Ga⟩ := Ra
  refine wpAny_bind (wpAny_pure (wpAny_bind (size_of Ro Go (wpAny_bind (size_of Ra Ga ?_)))))
  rw [if_neg small]
  unfold setEpoch
  refine wpAny_bind (wpAny_bind (Ro.state Go.fit (wpAny_pure ?_)))
  dsimp only
  refine wpAny_bind (wpAny_holding (wpAny_bind (Ro.unseen Go (fun b hb => ?_) fun gs d pm => ?_)))
  · obtain rfl := List.mem_singleton.mp hb
    exact ⟨_, _, _, _, Ra, Ga⟩
  refine wpAny_bind (wpAny_forIn_array' _ (fun l _ z => ∃ h' zs, z = { s with heap := h', drawn := d } ∧ Heap.SameBut a s.heap h' ∧ SetT w h' a zs ∧ zs.Nodup ∧ zs.length ≤ xs.length ∧ (∀ x, (x ∈ zs ∧ x ∉ l.map keyT) ↔ (x ∈ xs ∧ x ∉ ys)) ∧ ∀ e ∈ l, Tx w e) _ (fun e rest b z hz => ?_) (fun b z hz => ?_) gs PUnit.unit ⟨s.heap, xs, rfl, Heap.SameBut.refl a s.heap, ⟨_, _, _, Ra, Ga⟩, Ga.nd, Nat.le_refl _, fun x => ?_, fun e he => Go.tx e (pm.mem_iff.mp he)⟩)
  · obtain ⟨h1, zs, rfl, only, R1, nd, len, mem, tx⟩ := hz
    obtain ⟨x, tk, e1, e2⟩ := tx e List.mem_cons_self
    obtain ⟨h, v⟩ := e
    simp only at e1 e2
    subst e1 e2
    refine wpAny_bind (wpAny_holding (R1.discard (s := { s with heap := h1, drawn := d }) fun b2 h2 only2 R2 => wpAny_bind (same_epoch (s := { s with heap := h2, drawn := d }) (Ro.at fun ob hb => ((only.trans only2).2 o ne.symm).trans hb) Go (wpAny_pure ⟨h2, _, rfl, only.trans only2, R2, nd.erase x, ?_, fun y => ?_, fun e he => tx e (List.mem_cons_of_mem _ he)⟩))))
    · exact Nat.le_trans List.length_erase_le len
    · rw [← mem y, nd.mem_erase_iff, List.map_cons, List.mem_cons]
      show (y ≠ x ∧ y ∈ zs) ∧ _ ↔ y ∈ zs ∧ ¬ (y = x ∨ _)
      rw [not_or]
      exact ⟨fun z => ⟨z.1.2, z.1.1, z.2⟩, fun z => ⟨⟨z.2.1, z.1⟩, z.2.2⟩⟩
  · obtain ⟨h1, zs, rfl, only, R1, nd, len, mem, _⟩ := hz
    refine wpAny_pure (tidy (s := { s with heap := h1, drawn := d }) R1 (by omega) fun h2 only2 R2 => fin h2 d zs (only.trans only2) R2 ⟨fun x => by rw [← mem x]; simp, len⟩)
  · rw [((pm.map keyT).trans Go.keys).mem_iff]
/-- xs - ys -/
theorem call_minus {Q : Value → Shared → Prop} (Ra : SetT w s.heap a xs) (Ro : SetT w s.heap o ys) (ne : a ≠ o) (few : xs.length < 32)
    (fin : ∀ h' d zs, (∀ b ob, s.heap.get? b = some ob → h'.get? b = some ob) → SetT w h' s.heap.objs.size zs → Less xs ys zs → Q (.ref s.heap.objs.size) { s with heap := h', drawn := d }) : wpAny (model P w) A (call (.builtin "set.__sub__") [.ref a, .ref o]) Q E s := by
  refine wpAny_call_entry PySem.F.slot_set_sub Ra.is entry_minus ?_ (PySem.F.args_set_sub_2 _ _)
  show wpAny _ _ (Builtin.Frozenset.slot1 _ _ >>= _) _ _ _
  refine wpAny_bind (m := Builtin.Frozenset.slot1 _ _) (wpAny_pure ?_)
  refine wpAny_bind (wpAny_bind (any_yes Ra.is (any_yes Ro.is ?_)))
  rw [if_neg (by decide)]
  refine wpAny_bind (wpAny_pure (wpAny_bind ?_))
  have lta := Ra.lt
  have lto := Ro.lt
  have is := Ro.is
  obtain ⟨es, ep, t, Ra, Ga⟩ := Ra
  obtain ⟨fs, eo, u, Ro, Go⟩ := Ro
  have sa := Ga.size
  have so := Go.size
  unfold Builtin.Frozenset.difference
  dsimp only
  refine wpAny_bind (any_yes is ?_)
  rw [if_neg (by decide)]
  refine wpAny_bind (wpAny_pure ?_)
  rw [if_neg (by simp), if_pos rfl]
  refine wpAny_bind (size_of Ro Go (wpAny_bind (size_of Ra Ga ?_)))
  by_cases much : xs.length / 4 > ys.length
  · rw [if_pos much]
    refine wpAny_bind (wpAny_rule (wpAny_bind (copy Ra Ga (by omega) fun h1 d1 gs p1 v ws keep R1 G1 mem len mk => wpAny_bind (wpAny_pure (wpAny_bind (wpAny_holding ?_))))))
    refine take_away (s := { s with heap := h1, drawn := d1 }) ⟨_, _, _, R1, G1⟩ (Ro.at fun ob hb => keep _ _ hb) Go (Nat.ne_of_gt lto) (by omega) (by omega) fun h2 d2 zs only R2 less => wpAny_pure (wpAny_pure ⟨_, rfl, fin h2 d2 zs (fun b ob hb => (only.2 b (Nat.ne_of_lt (Heap.lt_size hb))).trans (keep b ob hb)) R2 ⟨fun x => by rw [less.1 x, mem x], Nat.le_trans less.2 len⟩⟩)
  · rw [if_neg much]
    unfold Builtin.Frozenset.baseOf
    refine wpAny_bind (wpAny_bind (wpAny_isInstance Ra.is sub_set_self (wpAny_pure ?_)))
    rw [if_pos rfl]
    refine wpAny_bind (new_set fun h1 t1 keep size1 R1 G1 m1 dm1 => wpAny_bind (wpAny_pure (wpAny_bind ?_)))
    have Ra1 : At h1 a es ep t := Ra.at fun ob hb => keep _ _ hb
    have Ro1 : At h1 o fs eo u := Ro.at fun ob hb => keep _ _ hb
    unfold setEpoch
    refine wpAny_bind (Ra1.state (s := { s with heap := h1 }) Ga.fit (wpAny_pure (wpAny_bind (wpAny_holding ?_))))
    dsimp only
    rw [if_pos rfl]
    refine wpAny_bind (Ra1.unseenF (s := { s with heap := h1 }) Ga (fun b hb => ?_) R1 G1 fun gs d h2 p2 t2 pm only2 R2 G2 m2 => ?_)
    · rcases List.mem_cons.mp hb with rfl | hb
      · exact ⟨_, _, _, _, Ro1, Go⟩
      · obtain rfl := List.mem_singleton.mp hb
        exact ⟨_, _, _, _, R1, G1⟩
    have nea : a ≠ s.heap.objs.size := Nat.ne_of_lt lta
    have neo : o ≠ s.heap.objs.size := Nat.ne_of_lt lto
    have bound : xs.length + 1 < scanBound := by unfold scanBound; omega
    refine wpAny_bind (wpAny_forIn_array' _ (fun l _ z => ∃ h' zs, z = { s with heap := h', drawn := d } ∧ Heap.SameBut s.heap.objs.size h2 h' ∧ SetT w h' s.heap.objs.size zs ∧ zs.length + l.length ≤ xs.length ∧ (∀ x, (x ∈ zs ∨ x ∈ l.map keyT ∧ x ∉ ys) ↔ (x ∈ xs ∧ x ∉ ys)) ∧ ∀ e ∈ l, Tx w e) _ (fun e rest b z hz => ?_) (fun b z hz => ?_) gs PUnit.unit ⟨h2, [], rfl, Heap.SameBut.refl _ h2, ⟨_, _, _, R2, G2⟩, ?_, fun x => ?_, fun e he => Ga.tx e (pm.mem_iff.mp he)⟩)
    · obtain ⟨h3, zs, rfl, only, R3, len, mem, tx⟩ := hz
      obtain ⟨x, tk, e1, e2⟩ := tx e List.mem_cons_self
      obtain ⟨h, v⟩ := e
      simp only at e1 e2
      subst e1 e2
      rw [List.length_cons] at len
      have Ra3 : At h3 a es ep t := Ra1.at fun ob hb => ((only2.trans only).2 a nea).trans hb
      have Ro3 : At h3 o fs eo u := Ro1.at fun ob hb => ((only2.trans only).2 o neo).trans hb
      have rest_ : ∀ y, (y = x ∨ y ∈ rest.map keyT) ↔ y ∈ ((hashStr w x, Value.str x tk) :: rest).map keyT := fun y => by
        rw [List.map_cons, List.mem_cons]
        exact Iff.rfl
      dsimp only
      rw [if_pos rfl]
      refine wpAny_bind (wpAny_holding (wpAny_bind (Ro3.find (s := { s with heap := h3, drawn := d }) Go (fun j e _ _ yes => wpAny_bind (wpAny_pure ?_)) fun no => wpAny_bind (wpAny_pure ?_))))
      · rw [if_neg (by simp)]
        refine wpAny_pure (wpAny_bind (same_epoch (s := { s with heap := h3, drawn := d }) Ra3 Ga (wpAny_pure ⟨h3, zs, rfl, only, R3, by omega, fun y => ?_, fun e he => tx e (List.mem_cons_of_mem _ he)⟩)))
        rw [← mem y, ← rest_ y]
        exact or_congr_right ⟨fun z => ⟨.inr z.1, z.2⟩, fun z => ⟨z.1.resolve_left fun c => z.2 (c ▸ yes), z.2⟩⟩
      · rw [if_pos (by simp)]
        refine wpAny_bind (R3.add (s := { s with heap := h3, drawn := d }) (by omega) fun h4 only4 R4 => wpAny_pure (wpAny_bind (same_epoch (s := { s with heap := h4, drawn := d }) (Ra3.at fun ob hb => (only4.2 a nea).trans hb) Ga (wpAny_pure ⟨h4, _, rfl, only.trans only4, R4, ?_, fun y => ?_, fun e he => tx e (List.mem_cons_of_mem _ he)⟩))))
        · have := len_ins (x := x) (xs := zs)
          omega
        · rw [← mem y, ← rest_ y, mem_ins]
          exact ⟨fun z => z.elim (fun z => z.elim (fun c => .inr ⟨.inl c, c ▸ no⟩) .inl) fun c => .inr ⟨.inr c.1, c.2⟩, fun z => z.elim (fun c => .inl (.inr c)) fun z => z.1.elim (fun c => .inl (.inl c)) fun c => .inr ⟨c, z.2⟩⟩
    · obtain ⟨h3, zs, rfl, only, R3, len, mem, _⟩ := hz
      refine wpAny_pure (wpAny_pure (wpAny_pure ⟨_, rfl, fin h3 d zs (fun b ob hb => ?_) R3 ⟨fun x => by rw [← mem x]; simp, by simpa using len⟩⟩))
      have nb : b ≠ s.heap.objs.size := Nat.ne_of_lt (Heap.lt_size hb)
      exact ((only2.trans only).2 b nb).trans (keep b ob hb)
    · have := pm.length_eq
      rw [Array.length_toList, Array.length_toList] at this
      simp only [List.length_nil, Array.length_toList]
      omega
    · rw [((pm.map keyT).trans Ga.keys).mem_iff]
      simp
end
section
variable {P : Program} {w : World} {A : Around} {E : Value → Shared → Prop} {s : Shared} {h h' : Heap} {a : Addr} {xs ys : List Str} {x : Str}
/-- set(l), by what putting l's items into the new set does -/
theorem call_set_by {l : Addr} (F : Heap → Prop) {Q : Value → Shared → Prop}
    (put : ∀ h1 t, (∀ b o, s.heap.get? b = some o → h1.get? b = some o) → At h1 s.heap.objs.size #[] 0 t → Gd w #[] t [] → t.mask = 7 → t.dummies = #[] → wpAny (model P w) A.in1.in1 (Builtin.Frozenset.updateFrom "set.__init__" s.heap.objs.size (.ref l)) (fun _ z => ∃ h' tk, z = { s with heap := h', toks := tk } ∧ F h' ∧ ∀ b o, s.heap.get? b = some o → h'.get? b = some o) E { s with heap := h1 })
    (fin : ∀ (h' : Heap) (tk : Nat), F h' → (∀ b o, s.heap.get? b = some o → h'.get? b = some o) → Q (.ref s.heap.objs.size) { s with heap := h', toks := tk }) : wpAny (model P w) A (call (.type "set") [.ref l]) Q E s := by
  obtain ⟨c0, c1, mro⟩ := PySem.F.called_set.mro
  have made := PySem.F.called_set.made
  have sub0 := PySem.F.called_set.sub
  have n1 := PySem.F.called_set.notType
  have n2 := PySem.F.called_set.canCreate
  have n3 := PySem.F.typeCall_set_1 (.ref l)
  have i1 := PySem.F.called_set.init.lookup
  have i2 := PySem.F.called_set.init.bind (.ref s.heap.objs.size)
  refine wpAny_call (codeAny_of_tree ?_)
  show wpAny _ _ (callAny (.type "set") _) _ _ _
  refine wpAny_pure ⟨Code.quiet_builtin _ (by decide +kernel), codeAny_builtin PySem.F.entry_type_call ?_⟩
  rw [Around.under_plain (weight_type_call_type "set" [.ref l] []) rfl]
  repeat (any_goals first | assumption | wp_step)
  refine codeAny_mono (new_code (.ref l) (E := E) (Q := fun ob z => ∃ h' t, ob = .ref s.heap.objs.size ∧ z = { s with heap := h' } ∧ (∀ b o, s.heap.get? b = some o → h'.get? b = some o) ∧ At h' s.heap.objs.size #[] 0 t ∧ Gd w #[] t [] ∧ t.mask = 7 ∧ t.dummies = #[]) fun h' keep t R G seven d => ⟨h', t, rfl, rfl, keep, R, G, seven, d⟩) fun r z hr => ?_
  rcases r with e | fl
  · exact hr
  cases fl with
  | ret ob =>
    obtain ⟨h1, t, rfl, rfl, keep, R, G, seven, d⟩ := hr
    have ty := R.is (s := { s with heap := h1 })
    repeat (any_goals first | assumption | wp_step)
    refine codeAny_mono (codeAny_call_builtin (R := wants (fun r z => r = .none ∧ ∃ h' tk, z = { s with heap := h', toks := tk } ∧ F h' ∧ ∀ b o, s.heap.get? b = some o → h'.get? b = some o) E) PySem.F.called_set.init.plain PySem.F.entry_set_init (check_set_init_1 ty ?_)) fun r2 z2 hr2 => ?_
    · unfold Builtin.«set.__init__» noKeywords setUsed
      have unused : (t.fill != 0) = false := by
        have fit := G.fit
        unfold SetTable.fits at fit
        have none := beq_iff_eq.mp (Bool.and_eq_true_iff.mp fit).1
        unfold SetTable.fill
        rw [none, d]
        rfl
      have used : ∀ {Q' : _ → Shared → Prop} {E' : Value → Shared → Prop}, Q' (#[], 0, t) { s with heap := h1 } → wpAny (model P w) A.in1.in1 (setState s.heap.objs.size) Q' E' { s with heap := h1 } := fun q => R.state G.fit q
      have R0 := R
      obtain ⟨⟨c1, c2, c3, c4⟩, ho, ⟨rfl, rfl, rfl⟩, hd⟩ := R
      generalize hU : Builtin.Frozenset.updateFrom = U
      generalize hV : setState = V at used ⊢
      wp_walk
      refine used ?_
      dsimp only
      rw [unused]
      refine wpAny_pure ?_
      rw [if_neg (by decide)]
      subst hU
      subst hV
      have last := put h1 t keep R0 G seven d
      refine wpAny_bind (wpAny_mono last (fun _ z hz => ?_) fun _ _ y => y)
      obtain ⟨h2, tk, rfl, so, keep2⟩ := hz
      exact wpAny_pure ⟨rfl, h2, tk, rfl, so, keep2⟩
    · rcases r2 with e | fl2
      · exact hr2
      cases fl2 with
      | ret r =>
        obtain ⟨rfl, h', tk, rfl, so, keep2⟩ := hr2
        repeat (any_goals first | assumption | wp_step)
        exact fin _ _ so keep2
      | _ => exact hr2.elim
  | _ => exact hr.elim
/-- the same for texts -/
theorem call_setT_by {l : Addr} (xs : List Str) {Q : Value → Shared → Prop}
    (put : ∀ h1, (∀ b o, s.heap.get? b = some o → h1.get? b = some o) → SetT w h1 s.heap.objs.size [] → wpAny (model P w) A.in1.in1 (Builtin.Frozenset.updateFrom "set.__init__" s.heap.objs.size (.ref l)) (fun _ z => ∃ h' tk, z = { s with heap := h', toks := tk } ∧ Of w h' s.heap.objs.size xs ∧ ∀ b o, s.heap.get? b = some o → h'.get? b = some o) E { s with heap := h1 })
    (fin : ∀ (h' : Heap) (tk : Nat), Of w h' s.heap.objs.size xs → (∀ b o, s.heap.get? b = some o → h'.get? b = some o) → Q (.ref s.heap.objs.size) { s with heap := h', toks := tk }) : wpAny (model P w) A (call (.type "set") [.ref l]) Q E s :=
  call_set_by (fun h' => Of w h' s.heap.objs.size xs) (fun h1 t keep R G _ _ => put h1 keep ⟨_, _, _, R, G⟩) fin
/-- set(l), l a list or a tuple of texts -/
theorem call_setT {l : Addr} {its : Array Value} (xs : List Str) {Q : Value → Shared → Prop} (hh : A.handled = none) (src : s.heap.IsList l its ∨ s.heap.IsTuple l its) (hv : ∀ (i : Nat) (v : Value), its[i]? = some v → ∃ x t, xs[i]? = some x ∧ v = Value.str x t) (hn : its.size = xs.length) (room : xs.length + 1 < scanBound)
    (fin : ∀ (h' : Heap) (tk : Nat), Of w h' s.heap.objs.size xs → (∀ b o, s.heap.get? b = some o → h'.get? b = some o) → Q (.ref s.heap.objs.size) { s with heap := h', toks := tk }) : wpAny (model P w) A (call (.type "set") [.ref l]) Q E s := by
  refine call_setT_by xs (fun h1 keep new => ?_) fin
  have kept : h1.IsList l its ∨ h1.IsTuple l its := src.imp (fun z => z.at fun o e => keep _ o e) (fun z => z.at fun o e => keep _ o e)
  exact fromSeq (s := { s with heap := h1 }) _ xs hh kept hv hn room new fun h2 tk so rest => ⟨h2, tk, rfl, so, fun b o e => rest b o (Nat.ne_of_lt (Heap.lt_size e)) (keep b o e)⟩
end
section
variable {P : Program} {w : World} {A : Around} {E : Value → Shared → Prop} {s : Shared} {a : Addr} {xs : List Str}
def keyV (v : Value) : Str := match v with
  | .str x _ => x
  | _ => Str.empty
theorem texts_are : ∀ (l : List Value), (∀ v ∈ l, ∃ x tk, v = Value.str x tk) → StrsAre l (l.map keyV)
  | [], _ => .nil
  | v :: l, h => by
    obtain ⟨x, tk, rfl⟩ := h v List.mem_cons_self
    exact .cons x tk (texts_are l fun u hu => h u (List.mem_cons_of_mem _ hu))
/-- sorted(xs), xs a set of texts, by what taking its members out does -/
theorem sorted_setT_by {Q : Value → Shared → Prop} (R : SetT w s.heap a xs) (h64 : xs.length < 64)
    (taken : ∀ (es : Array (Int × Value)) (ep : Nat) (t : SetTable) (R : List Value → Shared → Prop), SetAt s.heap a es ep t → Gd w es t xs →
      (∀ s' out, (∀ b o, s.heap.get? b = some o → s'.heap.get? b = some o) → s.heap.objs.size ≤ s'.heap.objs.size → s'.gens = s.gens → s'.os = s.os → out.Perm (es.toList.map (·.2)) → R out s') → wpAny (model P w) A.in1 (collect (.ref a)) R E s)
    (fin : ∀ s' p (out : Array Value) (c : Nat) (ys : List Str), (∀ b o, s.heap.get? b = some o → s'.heap.get? b = some o) → s'.gens = s.gens → s'.os = s.os → s.heap.objs.size ≤ p → s'.heap.get? p = some (seqObj "list" out c) → StrsAre out.toList ys → ys.Perm xs → sortedS ys = true → Q (.ref p) s') :
    wpAny (model P w) A (call (.builtin "sorted") [.ref a]) Q E s := by
  obtain ⟨es, ep, t, ⟨o, ho, ex, hd⟩, G⟩ := R
  refine Calls.call_function_entry kind_sorted plain_sorted entry_sorted (args_sorted1 _) ?_
  unfold Builtin.«sorted»
  refine wpAny_bind (m := checkCount _ 1 1 _) (wpAny_pure (wpAny_bind (taken es ep t _ ⟨o, ho, ex.1, hd⟩ G fun z vs keep wide gens os pm => ?_)))
  have tex : StrsAre vs (vs.map keyV) := texts_are vs fun v hv => by
    obtain ⟨e, he, rfl⟩ := List.mem_map.mp (pm.mem_iff.mp hv)
    obtain ⟨x, tk, e1, _⟩ := G.tx e he
    exact ⟨x, tk, e1⟩
  have same : (vs.map keyV).Perm xs := by
    have q := pm.map keyV
    rw [List.map_map] at q
    exact q.trans G.keys
  have count : vs.length = xs.length := by rw [← same.length_eq, List.length_map]
  refine wpAny_bind (wpAny_newList ?_ (by rw [count, sizeLine_eq]; omega))
  have here : (z.heap.push (seqObj "list" vs.toArray 0)).get? z.heap.objs.size = some (seqObj "list" vs.toArray 0) := Heap.get?_push_size _ rfl
  refine wpAny_bind (wpAny_holding (wpAny_call_entry slot_list_sort ⟨_, here, rfl⟩ entry_list_sort (list_sort_treeK strKind_oneLt here tex.keysOf (fun v₁ v₂ rest e => keyKind_strs (e ▸ tex)) (by omega) fun st hp hs => ⟨_, rfl, ?_⟩) (args_list_sort _)))
  obtain ⟨ys, y1, y2, y3⟩ := sorted_out_str tex hp hs
  obtain ⟨c, at_⟩ := sortedHeap_at (vs := vs) (out := (arrOf st).map (·.2)) here
  refine wpAny_pure ⟨_, rfl, fin _ _ _ c ys (fun b ob hb => ?_) gens os wide at_ y1 (y2.trans same) y3⟩
  have old := keep b ob hb
  have lt := Heap.lt_size old
  exact (sortedHeap_old (Nat.ne_of_lt lt) (by rw [size_push']; exact Nat.lt_succ_of_lt lt)).trans (Heap.get?_push_of_some _ old)
/-- sorted(xs), xs a set of texts -/
theorem sorted_setT {Q : Value → Shared → Prop} (R : SetT w s.heap a xs) (hh : A.handled = none) (h64 : xs.length < 64)
    (fin : ∀ s' p (out : Array Value) (c : Nat) (ys : List Str), (∀ b o, s.heap.get? b = some o → s'.heap.get? b = some o) → s'.gens = s.gens → s'.os = s.os → s.heap.objs.size ≤ p → s'.heap.get? p = some (seqObj "list" out c) → StrsAre out.toList ys → ys.Perm xs → sortedS ys = true → Q (.ref p) s') :
    wpAny (model P w) A (call (.builtin "sorted") [.ref a]) Q E s :=
  sorted_setT_by R h64 (fun _ _ _ _ there G q => collect_set (A := A.in1) hh there G.fit G.few G.ris G.led q) fin
end
/-! ### as rules -/
/-- the set of texts at a -/
def TxO (w : World) (a : Addr) (xs : List Str) : HO := .ext fun h => SetT w h a xs
section
variable {X : Cx}
theorem txO_new {w : World} {P : Program} {H : Hp} {h : Heap} {a : Addr} {xs : List Str} (R : SetT w h a xs) : ObjOk P w H h a (TxO w a xs) := by
  have ⟨_, _, _, ⟨o, here, _⟩, _⟩ := R
  exact ⟨R, ⟨o, here⟩, fun h1 h2 p k => SetT.at p k⟩
theorem txO_get {pins : List (Addr × Obj)} {σ : L2.St} {H : Hp} {s : Shared} {a : Addr} {xs : List Str} (I : L2.Inv X pins σ H s) (ha : H a = some (TxO X.w a xs)) : SetT X.w s.heap a xs := (I.hok a _ ha).1
theorem txO_nd {pins : List (Addr × Obj)} {σ : L2.St} {H : Hp} {s : Shared} {a : Addr} {xs : List Str} (I : L2.Inv X pins σ H s) (ha : H a = some (TxO X.w a xs)) : xs.Nodup := by
  obtain ⟨_, _, _, _, G⟩ := txO_get I ha
  exact G.nd
/-- a new set of texts is there, the order of draws may be another -/
theorem new_there {pins : List (Addr × Obj)} {σ : L2.St} {H : Hp} {s : Shared} {h' : Heap} {d : Drawn} {tk : Nat} {zs : List Str} (I : L2.Inv X pins σ H s) (keep : ∀ b o, s.heap.get? b = some o → h'.get? b = some o) (R : SetT X.w h' s.heap.objs.size zs) : L2.Inv X pins σ (upd H s.heap.objs.size (TxO X.w s.heap.objs.size zs)) { s with heap := h', drawn := d, toks := tk } := by
  have free : H s.heap.objs.size = none := I.hok.fresh (Nat.le_refl _)
  exact I.call (h' := h') (d' := d) (t' := tk) (g' := s.gens) (ch := []) (Un.laid keep (Nat.le_refl _) free) (I.hok.laid keep (Nat.le_refl _) (txO_new R)) I.bare (fun _ z => nomatch z)
/-- set(xs) of a list or a tuple of texts -/
def rSetT (K : PySem.W.Frag) (w : World) : List V → Hp → VK → Prop := fun vs H Q => ∃ (l : Addr) (xs : List Str), vs = [.ref l] ∧ (SqL K H l (xs.map V.str) ∨ SqT K H l (xs.map V.str)) ∧ xs.length < 1000 ∧ ∀ p ds, H p = none → ds.Nodup → (∀ x, x ∈ ds ↔ x ∈ xs) → ds.length ≤ xs.length → Q (.ref p) (upd H p (TxO w p ds))
theorem cr_setT (hc : X.calm = true) : CallR X (.type "set") (rSetT X.K X.w) := fun pins s σ H vs us Q I r h => by
  obtain ⟨l, xs, rfl, hs, few, q⟩ := h
  have src : ∃ its : List Value, Vals (xs.map V.str) its ∧ (s.heap.IsList l its.toArray ∨ s.heap.IsTuple l its.toArray) := by
    rcases hs with hs | hs
    · obtain ⟨its, rv, hl, _⟩ := I.list hs
      exact ⟨its, rv, .inl hl.isList⟩
    · obtain ⟨its, rv, hl, _⟩ := I.tuple hs
      exact ⟨its, rv, .inr hl⟩
  obtain ⟨its, rv, src⟩ := src
  rw [Vals.ref1 r]
  have hlen : its.length = xs.length := by rw [← rv.length, List.length_map]
  refine call_setT xs (I.ok.hd hc) src (fun i v hi => ?_) (by rw [List.size_toArray]; exact hlen) (by unfold scanBound; omega) fun h' tk hT hk => ?_
  · obtain ⟨x, hx, rx⟩ := UP.vals_get rv (show its[i]? = some v by rw [← List.getElem?_toArray]; exact hi)
    obtain ⟨y, hy, rfl⟩ := UW.map_str_get hx
    obtain ⟨t, rfl⟩ := rx
    exact ⟨y, t, hy, rfl⟩
  · obtain ⟨ds, h2, h3, h4⟩ := hT
    have nd : ds.Nodup := by
      obtain ⟨_, _, _, _, G⟩ := h4
      exact G.nd
    exact ⟨.ref _, _, new_there I hk h4, rfl, q _ ds (I.hok.fresh (Nat.le_refl _)) nd h2 h3⟩
/-- xs | ys -/
def rOrT (w : World) : V → V → Hp → VK → Prop := fun x y H Q => ∃ (a o : Addr) (xs ys : List Str), x = .ref a ∧ y = .ref o ∧ a ≠ o ∧ H a = some (TxO w a xs) ∧ H o = some (TxO w o ys) ∧ xs.length + ys.length < 64 ∧ ∀ p zs, H p = none → zs.Nodup → Both xs ys zs → Q (.ref p) (upd H p (TxO w p zs))
theorem or_orT : OpR X (binaryOp .BitOr) (rOrT X.w) := fun pins s σ H x y u v Q I rx ry h => by
  obtain ⟨a, o, xs, ys, rfl, rfl, ne, ha, ho, few, q⟩ := h
  cases rx
  cases ry
  have Ra := txO_get I ha
  have Ro := txO_get I ho
  refine wpAny_binaryOp_same Ra.is Ro.is PySem.F.fills_set_or PySem.F.slot_set_or (call_or Ra Ro ne (by omega) fun h' d zs keep R both => ⟨nofun, ?_⟩)
  have nd : zs.Nodup := by
    obtain ⟨_, _, _, _, G⟩ := R
    exact G.nd
  exact ⟨.ref _, _, new_there I keep R, rfl, q _ zs (I.hok.fresh (Nat.le_refl _)) nd both⟩
/-- xs - ys -/
def rMinusT (w : World) : V → V → Hp → VK → Prop := fun x y H Q => ∃ (a o : Addr) (xs ys : List Str), x = .ref a ∧ y = .ref o ∧ a ≠ o ∧ H a = some (TxO w a xs) ∧ H o = some (TxO w o ys) ∧ xs.length < 32 ∧ ∀ p zs, H p = none → zs.Nodup → Less xs ys zs → Q (.ref p) (upd H p (TxO w p zs))
theorem or_minusT : OpR X (binaryOp .Sub) (rMinusT X.w) := fun pins s σ H x y u v Q I rx ry h => by
  obtain ⟨a, o, xs, ys, rfl, rfl, ne, ha, ho, few, q⟩ := h
  cases rx
  cases ry
  have Ra := txO_get I ha
  have Ro := txO_get I ho
  refine wpAny_binaryOp_same Ra.is Ro.is PySem.F.fills_set_sub PySem.F.slot_set_sub (call_minus Ra Ro ne few fun h' d zs keep R less => ⟨nofun, ?_⟩)
  have nd : zs.Nodup := by
    obtain ⟨_, _, _, _, G⟩ := R
    exact G.nd
  exact ⟨.ref _, _, new_there I keep R, rfl, q _ zs (I.hok.fresh (Nat.le_refl _)) nd less⟩
/-- sorted(xs), xs a set of texts -/
def rSortT (w : World) : List V → Hp → VK → Prop := fun vs H Q => ∃ (a : Addr) (xs : List Str), vs = [.ref a] ∧ H a = some (TxO w a xs) ∧ xs.length < 64 ∧ ∀ (ys : List Str) (p : Addr), ys.Perm xs → sortedS ys = true → H p = none → Q (.ref p) (upd H p (.lst (ys.map V.str)))
theorem cr_sortT (hc : X.calm = true) : CallR X (.builtin "sorted") (rSortT X.w) := fun pins s σ H vs us Q I r h => by
  obtain ⟨a, xs, rfl, ha, h64, q⟩ := h
  rw [Vals.ref1 r]
  refine sorted_setT (txO_get I ha) (I.ok.hd hc) h64 fun s' p out c ys keep gens os new at_ tex pm srt => ?_
  have few : (ys.map V.str).length ≤ sizeLine := by rw [List.length_map, pm.length_eq, sizeLine_eq]; omega
  have free : H p = none := I.hok.fresh new
  have J : L2.Inv X pins σ (upd H p (.lst (ys.map V.str))) { s with heap := s'.heap, gens := s'.gens, drawn := s'.drawn, toks := s'.toks } :=
    I.call (ch := []) (Un.laid keep new free) (I.hok.laid keep new ⟨few, out.toList, c, vals_of_strs tex, at_⟩) (by rw [gens]; exact I.bare) (fun _ z => nomatch z)
  have e : s' = { s with heap := s'.heap, gens := s'.gens, drawn := s'.drawn, toks := s'.toks } := by
    obtain ⟨_, _, _, _, _⟩ := s'
    obtain ⟨_, _, _, _, _⟩ := s
    cases os
    rfl
  rw [e]
  exact ⟨.ref p, _, J, rfl, q ys p pm srt free⟩
end
end UZ
/-! own layer: sets of tuples of ints and texts: made of a list, counted, sorted -/
set_option maxHeartbeats 1600000
namespace UTS
open PySem PySem.Spec PyProof.Rows L2
/-! ### masks: from wherever a search begins, each slot begins one of its runs -/
def Rounds (m : Nat) : Prop := m % 2 = 1 ∧ ∀ (h : Int) (j : Nat), j ≤ m → ∃ n, n ≤ m + 12 ∧ runI m (SetTable.bits h) n = j
/-- where runs begin, from x on -/
def row (m : Nat) : Nat → Nat → List Nat
  | 0, _ => []
  | n + 1, x => x :: row m n ((x * 5 + 1) % (m + 1))
/-- the numbers of a list, as bits -/
def marks : List Nat → Nat
  | [] => 0
  | x :: xs => marks xs ||| 2 ^ x
theorem marks_mem {j : Nat} : ∀ {xs : List Nat}, (marks xs).testBit j = true → j ∈ xs
  | [], h => by simp [marks] at h
  | x :: xs, h => by
    unfold marks at h
    rw [Nat.testBit_or, Bool.or_eq_true] at h
    rcases h with h | h
    · exact List.mem_cons_of_mem _ (marks_mem h)
    · rw [Nat.testBit_two_pow] at h
      rw [of_decide_eq_true h]
      exact List.mem_cons_self
theorem lcgI_step (m i : Nat) : ∀ k, lcgI m i (k + 1) = lcgI m ((i * 5 + 1) % (m + 1)) k
  | 0 => rfl
  | k + 1 => by
    show (lcgI m i (k + 1) * 5 + 1) % (m + 1) = (lcgI m ((i * 5 + 1) % (m + 1)) k * 5 + 1) % (m + 1)
    rw [lcgI_step m i k]
theorem row_mem {m j : Nat} : ∀ {n x : Nat}, j ∈ row m n x → ∃ k, k < n ∧ lcgI m x k = j
  | 0, _, h => by simp [row] at h
  | n + 1, x, h => by
    rcases List.mem_cons.mp h with e | h
    · exact ⟨0, Nat.succ_pos _, e.symm⟩
    · obtain ⟨k, lt, e⟩ := row_mem h
      exact ⟨k + 1, Nat.succ_lt_succ lt, by rw [lcgI_step]; exact e⟩
theorem lcgI_from (m x a : Nat) : ∀ k, lcgI m (lcgI m x a) k = lcgI m x (a + k)
  | 0 => rfl
  | k + 1 => congrArg (fun i => (i * 5 + 1) % (m + 1)) (lcgI_from m x a k)
theorem rounds_of {m : Nat} (odd : m % 2 = 1) (look : marks (row m (m + 1) 0) = 2 ^ (m + 1) - 1) (back : lcgI m 0 (m + 1) = 0) : Rounds m := by
  have met : ∀ j, j ≤ m → ∃ k, k < m + 1 ∧ lcgI m 0 k = j := fun j hj => by
    refine row_mem (marks_mem ?_)
    rw [look, Nat.testBit_two_pow_sub_one]
    exact decide_eq_true (Nat.lt_succ_of_le hj)
  refine ⟨odd, fun h j hj => ?_⟩
  obtain ⟨a, la, ea⟩ := met _ (runI_le m (SetTable.bits h) 12)
  obtain ⟨b, lb, eb⟩ := met j hj
  have tail : ∀ k, runI m (SetTable.bits h) (12 + k) = lcgI m 0 (a + k) := fun k => by rw [runI_tail (bits_lt h), ← ea, lcgI_from]
  by_cases le : a ≤ b
  · exact ⟨12 + (b - a), by omega, by rw [tail, Nat.add_sub_cancel' le, eb]⟩
  · refine ⟨12 + (m + 1 + b - a), by omega, ?_⟩
    rw [tail, Nat.add_sub_cancel' (by omega), ← lcgI_from, back, eb]
theorem rounds7 : Rounds 7 := rounds_of rfl (by decide +kernel) (by decide +kernel)
theorem rounds31 : Rounds 31 := rounds_of rfl (by decide +kernel) (by decide +kernel)
theorem rounds127 : Rounds 127 := rounds_of rfl (by decide +kernel) (by decide +kernel)
theorem rounds511 : Rounds 511 := rounds_of rfl (by decide +kernel) (by decide +kernel)
/-! ### seats: the first free slot of a way -/
/-- j is where one of this hash sits, if these slots are taken -/
def Sits (m : Nat) (occ : Nat → Prop) (h : Int) (j : Nat) : Prop := ∃ K, way m h K = j ∧ ∀ k, k < K → occ (way m h k)
theorem Sits.mono {m : Nat} {occ occ' : Nat → Prop} {h : Int} {j : Nat} (S : Sits m occ h j) (up : ∀ x, occ x → occ' x) : Sits m occ' h j := by
  obtain ⟨K, e, all⟩ := S
  exact ⟨K, e, fun k lt => up _ (all k lt)⟩
theorem way_in (m : Nat) (h : Int) (k : Nat) : way m h k ≤ m := by
  have first : SetTable.bits h % (m + 1) ≤ m := Nat.le_of_lt_succ (Nat.mod_lt _ (Nat.succ_pos _))
  obtain ⟨b1, b2, _⟩ := runEnd_bd first
  have stay := nth_in (m := m) k (runAt m (SetTable.bits h % (m + 1)) (SetTable.bits h)) (show SetTable.bits h % (m + 1) + (SetTable.runEnd m (SetTable.bits h % (m + 1)) - SetTable.bits h % (m + 1)) ≤ m by omega)
  exact Nat.le_trans (Nat.le_add_right _ _) stay
theorem off_le {m : Nat} : ∀ {n i b : Nat}, i ≤ m → off m i b n ≤ 10 * n
  | 0, _, _, _ => Nat.le_refl _
  | n + 1, i, b, hi => by
    have more := off_le (n := n) (b := (SetTable.leap m i b).2) (leap_le m i b)
    obtain ⟨_, _, b3⟩ := runEnd_bd hi
    show SetTable.runEnd m i - i + 1 + off m _ _ n ≤ _
    omega
/-- the first free slot of the way of a hash -/
theorem seat {m : Nat} (R : Rounds m) (h : Int) (occ : Nat → Prop) {j : Nat} (hj : j ≤ m) (free : ¬ occ j) :
    ∃ K n, n < SetTable.turns m ∧ K ≤ off m (SetTable.bits h % (m + 1)) (SetTable.bits h) n ∧ ¬ occ (way m h K) ∧ ∀ k, k < K → occ (way m h k) := by
  obtain ⟨n, few, e⟩ := R.2 h j hj
  have there : way m h (off m (SetTable.bits h % (m + 1)) (SetTable.bits h) n) = j := by
    unfold way
    rw [nth_off, itL_run]
    exact e
  obtain ⟨K, le, no, yes⟩ := st_least (p := fun k => ¬ occ (way m h k)) _ (show ¬ occ (way m h _) from there.symm ▸ free)
  exact ⟨K, n, by unfold SetTable.turns; omega, le, no, fun k lt => Classical.not_not.mp (yes k lt)⟩
/-! ### a table from which all are found again by their hashes -/
structure Tb (t : SetTable) (hs : List Int) : Prop where
  ris : Ris t.place.toList
  dm : t.dummies = #[]
  sz : t.place.size = hs.length
  rnd : Rounds t.mask
  bd : ∀ x ∈ t.place.toList, x ≤ t.mask
  sits : ∀ (i : Nat) (h : Int) (j : Nat), hs[i]? = some h → t.place.toList[i]? = some j → Sits t.mask (· ∈ t.place.toList) h j
section
variable {t : SetTable} {hs : List Int}
theorem Tb.len (T : Tb t hs) : t.place.toList.length = hs.length := by rw [Array.length_toList, T.sz]
theorem Tb.marked (T : Tb t hs) (b : Bool) : Tb { t with plain := b } hs := ⟨T.ris, T.dm, T.sz, T.rnd, T.bd, T.sits⟩
theorem Tb.fits (T : Tb t hs) (few : hs.length ≤ t.mask) : t.fits hs.length = true := by
  unfold SetTable.fits SetTable.fill
  rw [T.dm, T.sz]
  simp
  exact few
/-- the first empty slot of a way -/
theorem Tb.gap (T : Tb t hs) (few : hs.length ≤ t.mask) (h : Int) : ∃ K n, n < SetTable.turns t.mask ∧ K ≤ off t.mask (SetTable.bits h % (t.mask + 1)) (SetTable.bits h) n ∧ way t.mask h K ∉ t.place.toList ∧ ∀ k, k < K → way t.mask h k ∈ t.place.toList := by
  obtain ⟨j, lt, no⟩ := st_missing t.place.toList (t.mask + 1) (by rw [T.len]; omega)
  exact seat T.rnd h _ (Nat.le_of_lt_succ lt) no
/-- what has that hash sits ahead of it -/
theorem Tb.ahead (T : Tb t hs) {h : Int} {K i j : Nat} (no : way t.mask h K ∉ t.place.toList) (hi : hs[i]? = some h) (hj : t.place.toList[i]? = some j) : ∃ k, k < K ∧ way t.mask h k = j := by
  obtain ⟨k, e, all⟩ := T.sits i h j hi hj
  refine ⟨k, Nat.lt_of_not_le fun le => no ?_, e⟩
  rcases Nat.lt_or_eq_of_le le with lt | q
  · exact all K lt
  · rw [q, e]
    exact List.mem_of_getElem? hj
/-- one more, at the place p of the entries -/
theorem Tb.more (T : Tb t hs) {h : Int} {j p : Nat} (hp : SetTable.below t.place j = p) (le : j ≤ t.mask) (no : j ∉ t.place.toList) (S : Sits t.mask (· ∈ t.place.toList) h j) :
    p ≤ hs.length ∧ Tb (t.put j).1 (hs.take p ++ h :: hs.drop p) := by
  have cut : SetTable.below t.place j ≤ t.place.size := (below_cut T.ris j).1
  rw [hp, T.sz] at cut
  have cut' : p ≤ t.place.toList.length := by rw [T.len]; exact cut
  have at_ : (t.put j).1.place.toList = t.place.toList.take p ++ j :: t.place.toList.drop p := by rw [put_place, hp]
  have up : ∀ x, x ∈ t.place.toList → x ∈ (t.put j).1.place.toList := fun x hx => by
    rw [at_]
    exact mem_ins.2 (.inr hx)
  refine ⟨cut, ris_insert T.ris fun e => no (List.mem_of_getElem? (by rw [Array.getElem?_toList]; exact e)), put_dm T.dm j, ?_, T.rnd, fun x hx => ?_, fun i g k hi hk => ?_⟩
  · rw [← Array.length_toList, at_, len_ins _ cut', len_ins _ cut, T.len]
  · rw [at_] at hx
    exact (mem_ins.1 hx).elim (fun e => e.symm ▸ le) (T.bd x)
  · rw [at_, tins_get _ cut'] at hk
    rw [tins_get _ cut] at hi
    show Sits t.mask (· ∈ (t.put j).1.place.toList) g k
    by_cases c : i < p
    · rw [if_pos c] at hi hk
      exact (T.sits i g k hi hk).mono up
    rw [if_neg c] at hi hk
    by_cases d : i = p
    · rw [if_pos d] at hi hk
      cases hi
      cases hk
      exact S.mono up
    · rw [if_neg d] at hi hk
      exact (T.sits _ g k hi hk).mono up
end
/-! ### a clean table, laid anew -/
/-- those of these hashes sit at these slots, as owner tells -/
structure Seats (m : Nat) (hs : List Int) (ps : List Nat) (owner : Array (Option Nat)) : Prop where
  sz : owner.size = m + 1
  len : ps.length = hs.length
  own : ∀ (j k : Nat), (j ≤ m ∧ oAt owner j = some k) ↔ ps[k]? = some j
  sits : ∀ (k : Nat) (h : Int) (j : Nat), hs[k]? = some h → ps[k]? = some j → Sits m (· ∈ ps) h j
section
variable {m : Nat} {hs : List Int} {ps : List Nat} {owner : Array (Option Nat)}
theorem Seats.nobody (m : Nat) : Seats m [] [] (Array.replicate (m + 1) none) where
  sz := by simp
  len := rfl
  own := fun j k => ⟨(fun y => by rw [oAt_init y.1] at y; cases y.2), fun e => by simp at e⟩
  sits := fun k h j e => by simp at e
theorem Seats.free (S : Seats m hs ps owner) {j : Nat} (hj : j ≤ m) : oAt owner j = none ↔ j ∉ ps := by
  refine ⟨fun e h => ?_, fun no => ?_⟩
  · obtain ⟨k, lt, q⟩ := List.getElem_of_mem h
    have := ((S.own j k).2 (by rw [List.getElem?_eq_getElem lt, q])).2
    rw [e] at this
    cases this
  · cases q : oAt owner j with
    | none => rfl
    | some k => exact absurd (List.mem_of_getElem? ((S.own j k).1 ⟨hj, q⟩)) no
/-- the next one takes the first free slot of its way -/
theorem Seats.next (R : Rounds m) (S : Seats m hs ps owner) (room : hs.length ≤ m) (h : Int) :
    ∃ j, SetTable.layClean.free m owner (SetTable.turns m) (SetTable.bits h % (m + 1)) (SetTable.bits h) = some j ∧ Seats m (hs ++ [h]) (ps ++ [j]) (owner.setIfInBounds j (some hs.length)) := by
  obtain ⟨j0, lt0, no0⟩ := st_missing ps (m + 1) (by rw [S.len]; omega)
  obtain ⟨K, n, few, le, no, yes⟩ := seat R h (· ∈ ps) (Nat.le_of_lt_succ lt0) no0
  have inside := way_in m h K
  have found := free_spec m owner (SetTable.turns m) n (SetTable.bits h % (m + 1)) (SetTable.bits h) K few le (fun k lt => by
    have taken := mt (S.free (way_in m h k)).1 (not_not_intro (yes k lt))
    revert taken
    show oAt owner (way m h k) ≠ none → _
    cases oAt owner (way m h k) with
    | none => exact fun y => absurd rfl y
    | some _ => exact fun _ => rfl) (by
    show (oAt owner (way m h K)).isNone = true
    rw [(S.free inside).2 no]
    rfl)
  have here : way m h K < owner.size := by rw [S.sz]; omega
  refine ⟨way m h K, found, by rw [Array.size_setIfInBounds]; exact S.sz, by simp [S.len], fun j k => ?_, fun k g j hk hj => ?_⟩
  · by_cases c : j = way m h K
    · subst c
      rw [oAt_set_self _ here]
      refine ⟨fun y => ?_, fun e => ⟨inside, ?_⟩⟩
      · cases y.2
        rw [← S.len, List.getElem?_append_right (Nat.le_refl _), Nat.sub_self]
        rfl
      · rw [List.getElem?_append] at e
        by_cases lt : k < ps.length
        · rw [if_pos lt] at e
          exact absurd (List.mem_of_getElem? e) no
        · rw [if_neg lt] at e
          have last := (List.getElem?_eq_some_iff.mp e).1
          have : k = hs.length := by
            rw [List.length_singleton] at last
            rw [← S.len]
            omega
          rw [this]
    · rw [oAt_set_ne _ c, S.own, List.getElem?_append]
      by_cases lt : k < ps.length
      · rw [if_pos lt]
      · rw [if_neg lt, List.getElem?_eq_none (Nat.le_of_not_lt lt)]
        refine ⟨(fun e => nomatch e), fun e => ?_⟩
        exact absurd (List.mem_singleton.mp (List.mem_of_getElem? e)) c
  · have up : ∀ x, x ∈ ps → x ∈ ps ++ [way m h K] := fun x => List.mem_append_left _
    rw [List.getElem?_append] at hk hj
    rw [← S.len] at hk
    by_cases lt : k < ps.length
    · rw [if_pos lt] at hk hj
      exact (S.sits k g j hk hj).mono up
    · rw [if_neg lt] at hk hj
      have e1 := List.mem_singleton.mp (List.mem_of_getElem? hk)
      have e2 := List.mem_singleton.mp (List.mem_of_getElem? hj)
      rw [e1, e2]
      exact ⟨K, rfl, fun k' lt' => up _ (yes k' lt')⟩
theorem Seats.all (R : Rounds m) : ∀ (rest hs : List Int) (ps : List Nat) (owner : Array (Option Nat)), Seats m hs ps owner → hs.length + rest.length ≤ m →
    ∃ ps' owner', rest.foldl (stepF m) (some (owner, hs.length)) = some (owner', hs.length + rest.length) ∧ Seats m (hs ++ rest) ps' owner'
  | [], hs, ps, owner, S, _ => ⟨ps, owner, rfl, by rw [List.append_nil]; exact S⟩
  | h :: rest, hs, ps, owner, S, room => by
    rw [List.length_cons] at room
    obtain ⟨j, found, S'⟩ := S.next R (by omega) h
    have one : (hs ++ [h]).length = hs.length + 1 := List.length_append
    obtain ⟨ps', owner', e, S2⟩ := Seats.all R rest _ _ _ S' (by rw [one]; omega)
    rw [one] at e
    rw [List.append_assoc] at S2
    refine ⟨ps', owner', ?_, S2⟩
    rw [List.foldl_cons, stepF_some found, e, List.length_cons, Nat.add_assoc, Nat.add_comm 1]
/-- a clean table: all entries by their slots -/
theorem laid {t : SetTable} {hs : Array Int} {n : Nat} (hn : SetTable.sizeAbove n - 1 = m) (R : Rounds m) (room : hs.size ≤ m) :
    ∃ t' order, t.relaid hs n = some (t', order) ∧ order.toList.Perm (List.range hs.size) ∧ Tb t' (order.toList.map fun i => hs.getD i 0) ∧ t'.mask = m ∧ t'.led = t.led ∧ t'.plain = t.plain := by
  obtain ⟨ps, owner, e, S⟩ := Seats.all R hs.toList [] [] _ (Seats.nobody m) (by rw [Array.length_toList]; show 0 + hs.size ≤ m; omega)
  rw [List.nil_append] at S
  have made : SetTable.layClean m hs = some owner := by
    rw [layClean_eq]
    show Option.map _ (hs.toList.foldl (stepF m) (some (_, ([] : List Int).length))) = _
    rw [e]
    rfl
  have told : t.relaid hs n = some (tabOf t m owner, ((liveOf m owner).map (·.2)).toArray) := by rw [relaid_eq, hn, made]; rfl
  have mem : ∀ j k, (j, k) ∈ liveOf m owner ↔ ps[k]? = some j := fun j k => (mem_live S.sz).trans (S.own j k)
  have js : Ris ((liveOf m owner).map (·.1)) := (ris_live (fun j => owner.getD j none) (List.range (m + 1)) List.pairwise_lt_range).1
  have ks : ((liveOf m owner).map (·.2)).Nodup := by
    refine List.pairwise_map.mpr (List.Pairwise.imp_of_mem (fun {p q} hp hq lt e => ?_) (List.pairwise_map.mp js))
    have h1 := (mem p.1 p.2).1 hp
    have h2 := (mem q.1 q.2).1 hq
    rw [e, h2] at h1
    exact Nat.ne_of_lt lt (Option.some.inj h1).symm
  have same : ((liveOf m owner).map (·.2)).Perm (List.range hs.size) := by
    refine (List.perm_ext_iff_of_nodup ks List.nodup_range).mpr fun k => ?_
    rw [List.mem_range, ← Array.length_toList, ← S.len]
    constructor
    · intro h
      obtain ⟨p, hp, rfl⟩ := List.mem_map.mp h
      exact (List.getElem?_eq_some_iff.mp ((mem p.1 p.2).1 hp)).1
    · intro lt
      exact List.mem_map.mpr ⟨(ps[k], k), (mem _ _).2 (List.getElem?_eq_getElem lt), rfl⟩
  have places : ∀ x, x ∈ (liveOf m owner).map (·.1) ↔ x ∈ ps := fun x => by
    refine ⟨fun h => ?_, fun h => ?_⟩
    · obtain ⟨p, hp, rfl⟩ := List.mem_map.mp h
      exact List.mem_of_getElem? ((mem p.1 p.2).1 hp)
    · obtain ⟨k, lt, e⟩ := List.getElem_of_mem h
      exact List.mem_map.mpr ⟨(x, k), (mem _ _).2 (by rw [List.getElem?_eq_getElem lt, e]), rfl⟩
  refine ⟨_, _, told, same, ⟨js, rfl, ?_, R, fun x hx => ?_, fun i h j hi hj => ?_⟩, rfl, rfl, rfl⟩
  · show ((liveOf m owner).map (·.1)).toArray.size = _
    simp
  · obtain ⟨p, hp, rfl⟩ := List.mem_map.mp hx
    exact ((mem_live S.sz).1 (show (p.1, p.2) ∈ _ from hp)).1
  · have hj' : ((liveOf m owner).map (·.1))[i]? = some j := hj
    have hi' : (((liveOf m owner).map (·.2)).map fun i => hs.getD i 0)[i]? = some h := hi
    rw [List.map_map, List.getElem?_map] at hi'
    rw [List.getElem?_map] at hj'
    obtain ⟨p, hp, rfl⟩ := Option.map_eq_some_iff.mp hj'
    rw [hp] at hi'
    have at_ := (mem p.1 p.2).1 (List.mem_of_getElem? hp)
    have lt : p.2 < hs.size := by
      have := (List.getElem?_eq_some_iff.mp at_).1
      rwa [S.len, Array.length_toList] at this
    have hash : hs.toList[p.2]? = some h := by
      rw [Array.getElem?_toList, Array.getElem?_eq_getElem lt, ← Option.some.inj hi']
      simp [Array.getD, lt]
    exact (S.sits _ _ _ hash at_).mono fun x hx => (places x).2 hx
end
end UTS

namespace UTS
open PySem PySem.Spec PyProof.Rows L2
/-! ### what a search meets -/
/-- the c-th step of the way of a hash -/
def stp (m : Nat) (h : Int) (c : Nat) : SetTable.Probe := nth m (runAt m (SetTable.bits h % (m + 1)) (SetTable.bits h)) c
theorem stp_add (m : Nat) (h : Int) (c k : Nat) : nth m (stp m h c) k = stp m h (c + k) := (nth_add m c _ k).symm
theorem stp_clear (m : Nat) (h : Int) : ∀ c, (stp m h c).dummy = none
  | 0 => rfl
  | c + 1 => by
    have e : stp m h (c + 1) = adv m (stp m h c) := nth_succ ..
    have d := stp_clear m h c
    rw [e]
    unfold adv
    split <;> exact d
section
variable {t : SetTable} {hs : List Int}
/-- from the c-th step on: the first one of this hash, or the gap -/
theorem Tb.met (T : Tb t hs) {h : Int} {K n c : Nat} (few : n < SetTable.turns t.mask) (le : K ≤ off t.mask (SetTable.bits h % (t.mask + 1)) (SetTable.bits h) n) (no : way t.mask h K ∉ t.place.toList) (yes : ∀ k, k < K → way t.mask h k ∈ t.place.toList) (hc : c ≤ K)
    (hashAt : Nat → Int) (same : ∀ (i : Nat) (g : Int), hs[i]? = some g → hashAt i = g) :
    (∃ q i, c ≤ q ∧ q < K ∧ t.place.toList[i]? = some (way t.mask h q) ∧ hs[i]? = some h ∧ (∀ (q' i' : Nat), c ≤ q' → q' < q → t.place.toList[i']? = some (way t.mask h q') → hs[i']? ≠ some h) ∧
      t.probe hashAt h (stp t.mask h c) = some (.candidate (way t.mask h q) i (stp t.mask h (q + 1)))) ∨
    ((∀ (q' i' : Nat), c ≤ q' → q' < K → t.place.toList[i']? = some (way t.mask h q') → hs[i']? ≠ some h) ∧ t.probe hashAt h (stp t.mask h c) = some (.empty (way t.mask h K) none)) := by
  have first : SetTable.bits h % (t.mask + 1) ≤ t.mask := Nat.le_of_lt_succ (Nat.mod_lt _ (Nat.succ_pos _))
  have bound := off_le (n := n) (b := SetTable.bits h) first
  have step : ∀ k, (nth t.mask (stp t.mask h c) k).j = way t.mask h (c + k) := fun k => congrArg SetTable.Probe.j (stp_add t.mask h c k)
  have spec := go_spec t T.ris T.dm hashAt h (10 * SetTable.turns t.mask) (K - c) (stp t.mask h c) (stp_clear ..) (by omega) (fun k lt => by rw [step]; exact yes _ (by omega)) (by rw [step, Nat.add_sub_cancel' hc]; exact no)
  have other : ∀ {q : Nat}, (∀ (k' i' : Nat), k' < q → t.place.toList[i']? = some (nth t.mask (stp t.mask h c) k').j → hashAt i' ≠ h) → ∀ (q' i' : Nat), c ≤ q' → q' < c + q → t.place.toList[i']? = some (way t.mask h q') → hs[i']? ≠ some h := fun {q} all q' i' h1 h2 h3 e => by
    refine all (q' - c) i' (by omega) (by rw [step, Nat.add_sub_cancel' h1]; exact h3) (same _ _ e)
  rcases spec with ⟨k, i, a1, a2, a3, a4, a5⟩ | ⟨a4, a5⟩
  · rw [step] at a2
    have lt : i < hs.length := by
      rw [← T.len]
      exact (List.getElem?_eq_some_iff.mp a2).1
    have hash : hs[i]? = some h := by
      have e := List.getElem?_eq_getElem lt
      rw [e, ← same _ _ e, a3]
    refine .inl ⟨c + k, i, Nat.le_add_right _ _, by omega, a2, hash, other a4, ?_⟩
    rw [step, stp_add] at a5
    exact a5
  · rw [step, Nat.add_sub_cancel' hc] at a5
    refine .inr ⟨fun q' i' h1 h2 => other a4 q' i' h1 (by omega), a5⟩
end
/-! ### tuples of ints and texts -/
abbrev Tup (P : Program) (w : World) (h : Heap) (k : List Key) (a : Addr) : Prop := IsTupleKey (mixKind P w) h k a
abbrev hsh (P : Program) (w : World) (k : List Key) : Int := tupleKeyHash (mixKind P w) k
theorem Tup.move {P : Program} {w : World} {h h' : Heap} {k : List Key} {a : Addr} (T : Tup P w h k a) (keep : ∀ o, h.get? a = some o → h'.get? a = some o) : Tup P w h' k a := by
  obtain ⟨o, its, n, g, r⟩ := T
  exact ⟨o, its, n, keep o g, r⟩
theorem item_is {P : Program} {w : World} {k : List Key} {vs : List Value} (I : ItemsAre (mixKind P w) k vs) : ∀ v ∈ vs, (∃ i t, v = Value.int i t) ∨ ∃ x t, v = Value.str x t := by
  induction I with
  | nil => exact fun v hv => absurd hv (by simp)
  | cons one _ ih =>
    intro v hv
    rcases List.mem_cons.mp hv with e | hv
    · rw [e]
      rcases keyIs_shape one with ⟨i, t, _, e⟩ | ⟨x, t, _, e⟩
      · exact .inl ⟨i, t, e⟩
      · exact .inr ⟨x, t, e⟩
    · exact ih v hv
section
variable {P : Program} {w : World} {A : Around} {E : Value → Shared → Prop} {s : Shared} {k : List Key} {a : Addr}
/-- it is of no class of the program, nor is one of its items -/
theorem plain_tup {Q : Bool → Shared → Prop} (T : Tup P w s.heap k a) (q : Q false s) : wpAny (model P w) A (ofAClassStatement 8 (.ref a)) Q E s := by
  have ty := T.typeIs
  obtain ⟨o, its, n, g, _, d, all⟩ := T
  unfold ofAClassStatement
  refine wpAny_bind (wpAny_typeOf ty ?_)
  dsimp only
  rw [if_pos (by decide)]
  refine wpAny_bind (wpAny_pure ?_)
  rw [if_neg (by decide)]
  refine wpAny_bind (wpAny_seqItems g d ?_)
  dsimp only
  refine wpAny_bind ?_
  rw [← Array.forIn_toList]
  refine wpAny_forIn_list _ (fun left r z => (∀ v ∈ left, ∀ d, ofAClassStatement d v = pure false) ∧ r.1 = none ∧ z = s) _ (fun v left r z inv => ?_) (fun r z inv => ?_) _ _ ⟨fun v hv d => ?_, rfl, rfl⟩
  · obtain ⟨no, nothing, rfl⟩ := inv
    rw [no v List.mem_cons_self]
    refine wpAny_bind (wpAny_pure ?_)
    rw [if_neg (by decide)]
    exact wpAny_pure ⟨fun u hu => no u (List.mem_cons_of_mem _ hu), rfl, rfl⟩
  · obtain ⟨r1, _⟩ := r
    obtain ⟨_, rfl, rfl⟩ := inv
    exact wpAny_pure q
  · rcases item_is all v hv with ⟨i, t, rfl⟩ | ⟨x, t, rfl⟩ <;> cases d <;> rfl
/-- whether its hash hangs on values alone -/
theorem byValue_tup {Q : Bool → Shared → Prop} (T : Tup P w s.heap k a) (q : ∀ b, Q b s) : wpAny (model P w) A (hashByValue 8 (.ref a)) Q E s := by
  have ty := T.typeIs
  obtain ⟨o, its, n, g, _, d, all⟩ := T
  unfold hashByValue
  refine wpAny_bind (wpAny_specialOf ty F.slot_tuple_hash.lookup (wpAny_bind (wpAny_seqItems g d (wpAny_bind ?_))))
  show wpAny _ _ (forIn its _ _) _ _ s
  rw [← Array.forIn_toList]
  refine wpAny_forIn_list _ (fun left r z => (∀ v ∈ left, ∀ d, ∃ b, hashByValue d v = pure b) ∧ r.1 = none ∧ z = s) _ (fun v left r z inv => ?_) (fun r z inv => ?_) _ _ ⟨fun v hv d => ?_, rfl, rfl⟩
  · obtain ⟨some_, nothing, rfl⟩ := inv
    obtain ⟨b, e⟩ := some_ v List.mem_cons_self 7
    rw [e]
    refine wpAny_bind (wpAny_pure ?_)
    cases b with
    | true =>
      rw [if_neg (by decide)]
      exact wpAny_pure ⟨fun u hu => some_ u (List.mem_cons_of_mem _ hu), rfl, rfl⟩
    | false =>
      rw [if_pos (by decide)]
      exact wpAny_pure (wpAny_pure (q false))
  · obtain ⟨r1, _⟩ := r
    obtain ⟨_, rfl, rfl⟩ := inv
    exact wpAny_pure (q true)
  · rcases item_is all v hv with ⟨i, t, rfl⟩ | ⟨x, t, rfl⟩ <;> cases d <;> exact ⟨_, rfl⟩
/-- a search among such shows nothing -/
theorem unseen {ys : List Value} {Q : Bool → Shared → Prop} (T : Tup P w s.heap k a) (all : ∀ y ∈ ys, ∃ k' c, y = Value.ref c ∧ Tup P w s.heap k' c) (q : Q false s) : wpAny (model P w) A (searchCouldBeSeen (.ref a) ys) Q E s := by
  unfold searchCouldBeSeen
  refine wpAny_bind (wpAny_forIn_list _ (fun left r z => (∀ y ∈ left, ∃ k' c, y = Value.ref c ∧ Tup P w s.heap k' c) ∧ r.1 = none ∧ z = s) _ (fun v left r z inv => ?_) (fun r z inv => ?_) _ _ ⟨all, rfl, rfl⟩)
  · obtain ⟨tups, nothing, rfl⟩ := inv
    obtain ⟨k', c, rfl, T'⟩ := tups v List.mem_cons_self
    have on : ∀ u ∈ left, ∃ k' c, u = Value.ref c ∧ Tup P w z.heap k' c := fun u hu => tups u (List.mem_cons_of_mem _ hu)
    refine wpAny_ite_split (fun _ => wpAny_pure ⟨on, rfl, rfl⟩) fun _ => ?_
    refine wpAny_bind (wpAny_eqIsQuiet_tuple T ?_)
    rw [if_neg (by decide)]
    refine wpAny_bind (wpAny_eqIsQuiet_tuple T' ?_)
    rw [if_neg (by decide)]
    refine wpAny_bind (plain_tup T ?_)
    rw [if_neg (by decide)]
    refine wpAny_bind (plain_tup T' ?_)
    rw [if_neg (by decide)]
    exact wpAny_pure ⟨on, rfl, rfl⟩
  · obtain ⟨r1, _⟩ := r
    obtain ⟨_, rfl, rfl⟩ := inv
    exact wpAny_pure q
end
/-! ### entries and table of a set of tuples -/
def ent (P : Program) (w : World) (p : Addr × List Key) : Int × Value := (hsh P w p.2, .ref p.1)
/-- these entries, this table: a set of these tuples, of each one that stands for its like -/
structure Gd (P : Program) (w : World) (L : List (Addr × List Key)) (es : Array (Int × Value)) (t : SetTable) : Prop where
  rows : es.toList = L.map (ent P w)
  tab : Tb t (L.map fun p => hsh P w p.2)
  nd : (L.map (·.2)).Nodup
  led : w.params.followText "set-order" = true ∨ t.led = true
  room : L.length * 5 < t.mask * 3
  top : t.mask = 7 ∨ t.mask = 31 ∨ t.mask = 127 ∨ t.mask = 511
/-- they stand there -/
def All (P : Program) (w : World) (h : Heap) (L : List (Addr × List Key)) : Prop := ∀ p ∈ L, Tup P w h p.2 p.1
section
variable {P : Program} {w : World} {A : Around} {E : Value → Shared → Prop} {s : Shared} {k : List Key} {a x : Addr} {L M : List (Addr × List Key)} {es : Array (Int × Value)} {ep : Nat} {t : SetTable}
theorem Gd.size (G : Gd P w L es t) : es.size = L.length := by rw [← Array.length_toList, G.rows, List.length_map]
theorem Gd.few (G : Gd P w L es t) : L.length < 307 := by
  have := G.room
  rcases G.top with e | e | e | e <;> omega
theorem Gd.fit (G : Gd P w L es t) : t.fits es.size = true := by
  have := G.room
  have f := G.tab.fits (by rw [List.length_map]; omega)
  rw [List.length_map, ← G.size] at f
  exact f
theorem Gd.entry (G : Gd P w L es t) {i : Nat} {p : Addr × List Key} (e : L[i]? = some p) : es[i]? = some (ent P w p) := by rw [← Array.getElem?_toList, G.rows, List.getElem?_map, e]; rfl
theorem Gd.odd (G : Gd P w L es t) : t.gaveWay = false := by
  unfold SetTable.gaveWay
  rw [G.tab.rnd.1]
  rfl
/-- from the c-th step on -/
theorem seek (R : UZ.At s.heap a es ep t) (G : Gd P w L es t) (all : All P w s.heap L) (T : Tup P w s.heap k x) (hu : A.units < cLine) {K n : Nat}
    (few : n < SetTable.turns t.mask) (le : K ≤ off t.mask (SetTable.bits (hsh P w k) % (t.mask + 1)) (SetTable.bits (hsh P w k)) n) (no : way t.mask (hsh P w k) K ∉ t.place.toList) (yes : ∀ c, c < K → way t.mask (hsh P w k) c ∈ t.place.toList) {Q : SetFound → Shared → Prop}
    (old : k ∈ L.map (·.2) → Q (.there none) s) (new : k ∉ L.map (·.2) → Q (.free (way t.mask (hsh P w k) K) false) s) :
    ∀ (f c : Nat) (stand : Option SetTable.Probe), stand.getD (t.probeStart (hsh P w k)) = stp t.mask (hsh P w k) c → c ≤ K → K < c + f →
      (∀ (i : Nat) (p : Addr × List Key), L[i]? = some p → p.2 = k → ∃ c', c ≤ c' ∧ c' < K ∧ t.place.toList[i]? = some (way t.mask (hsh P w k) c')) → wpAny (model P w) A (setSearchFrom a (.ref x) (hsh P w k) true f stand) Q E s
  | 0, _, _, _, h1, h2, _ => absurd h1 (by omega)
  | f + 1, c, stand, from_, h1, h2, later => by
    have hashes : ∀ (i : Nat) (g : Int), (L.map fun p => hsh P w p.2)[i]? = some g → (fun i => (es[i]?.map (·.1)).getD 0) i = g := fun i g e => by
      rw [List.getElem?_map] at e
      obtain ⟨p, hp, rfl⟩ := Option.map_eq_some_iff.mp e
      show (es[i]?.map (·.1)).getD 0 = _
      rw [G.entry hp]
      rfl
    have like : ∀ {i : Nat} {p : Addr × List Key}, L[i]? = some p → p.2 = k → (L.map fun p => hsh P w p.2)[i]? = some (hsh P w k) := fun {i p} e q => by rw [List.getElem?_map, e, ← q]; rfl
    rw [setSearchFrom_succ]
    refine wpAny_bind (R.state G.fit ?_)
    dsimp only
    rw [G.odd, from_]
    rw [if_neg (by decide)]
    refine wpAny_bind (wpAny_pure ?_)
    rcases G.tab.met few le no yes h1 _ hashes with ⟨q, i, b1, b2, b3, b4, b5, b6⟩ | ⟨b5, b6⟩
    · rw [b6]
      dsimp only
      rw [List.getElem?_map] at b4
      obtain ⟨p, hp, ep'⟩ := Option.map_eq_some_iff.mp b4
      have body : wpAny (model P w) A (searchRest a (.ref x) (hsh P w k) true f es t (way t.mask (hsh P w k) q) i (stp t.mask (hsh P w k) (q + 1))) Q E s := by
        unfold searchRest
        rw [G.entry hp]
        refine wpAny_bind (wpAny_holding (wpAny_eqBool_tuple hu (all p (List.mem_of_getElem? hp)) T ?_))
        refine wpAny_bind (R.state G.fit ?_)
        dsimp only
        by_cases e : p.2 = k
        · rw [decide_eq_true e]
          exact wpAny_pure (old (List.mem_map.mpr ⟨p, List.mem_of_getElem? hp, e⟩))
        · rw [decide_eq_false e, Bool.and_false, if_neg (by decide)]
          refine wpAny_bind (wpAny_pure ?_)
          rw [sameMem]
          dsimp only
          rw [if_pos rfl, slot_live G.tab.ris b3]
          dsimp only
          rw [G.entry hp]
          refine wpAny_bind (wpAny_isSame_ref_self (wpAny_bind (wpAny_pure ?_)))
          rw [if_pos rfl]
          dsimp only
          rw [if_neg (by decide)]
          refine seek R G all T hu few le no yes old new f (q + 1) _ rfl b2 (by omega) fun i0 p0 h0 e0 => ?_
          obtain ⟨c', d1, d2, d3⟩ := later i0 p0 h0 e0
          refine ⟨c', Nat.lt_of_not_le fun z => ?_, d2, d3⟩
          rcases Nat.lt_or_eq_of_le z with z | z
          · exact b5 c' i0 d1 z d3 (like h0 e0)
          · rw [z] at d3
            have one := (slot_live G.tab.ris d3).symm.trans (slot_live G.tab.ris b3)
            injection one with one
            rw [one, hp] at h0
            cases h0
            exact e e0
      refine wpAny_ite_split (fun _ => wpAny_bind (unseen T (fun y hy => ?_) ?_)) fun _ => wpAny_bind (wpAny_pure body)
      · obtain ⟨e, he, rfl⟩ := List.mem_map.mp hy
        have there : e ∈ es.toList := by
          rw [Array.toList_filter] at he
          exact (List.mem_filter.mp he).1
        rw [G.rows] at there
        obtain ⟨p', hp', rfl⟩ := List.mem_map.mp there
        exact ⟨p'.2, p'.1, rfl, all p' hp'⟩
      · rw [if_neg (by decide)]
        exact wpAny_bind (wpAny_pure body)
    · rw [b6]
      refine wpAny_pure (new fun hm => ?_)
      obtain ⟨p0, h0, e0⟩ := List.mem_map.mp hm
      obtain ⟨i0, lt0, q0⟩ := List.getElem_of_mem h0
      have g0 : L[i0]? = some p0 := by rw [List.getElem?_eq_getElem lt0, q0]
      obtain ⟨c', d1, d2, d3⟩ := later i0 p0 g0 e0
      exact b5 c' i0 d1 d2 d3 (like g0 e0)
/-- whether its like is there, or else where it comes to sit -/
theorem search (R : UZ.At s.heap a es ep t) (G : Gd P w L es t) (all : All P w s.heap L) (T : Tup P w s.heap k x) (hu : A.units < cLine) {Q : SetFound → Shared → Prop} (old : k ∈ L.map (·.2) → Q (.there none) s)
    (new : ∀ j, k ∉ L.map (·.2) → j ≤ t.mask → j ∉ t.place.toList → Sits t.mask (· ∈ t.place.toList) (hsh P w k) j → Q (.free j false) s) : wpAny (model P w) A (setSearch a (.ref x) (hsh P w k) true) Q E s := by
  have room := G.room
  obtain ⟨K, n, few, le, no, yes⟩ := G.tab.gap (by rw [List.length_map]; omega) (hsh P w k)
  have bound := off_le (n := n) (b := SetTable.bits (hsh P w k)) (Nat.le_of_lt_succ (show SetTable.bits (hsh P w k) % (t.mask + 1) < t.mask + 1 from Nat.mod_lt _ (Nat.succ_pos _)))
  have small : n < 600 := by
    unfold SetTable.turns at few
    rcases G.top with e | e | e | e <;> omega
  refine seek R G all T hu few le no yes old (fun z => new _ z (way_in ..) no ⟨K, rfl, yes⟩) 100000 0 none rfl (Nat.zero_le _) (by omega) fun i p hp e => ?_
  have hash : (L.map fun p => hsh P w p.2)[i]? = some (hsh P w k) := by rw [List.getElem?_map, hp, ← e]; rfl
  have lt : i < t.place.toList.length := by
    rw [G.tab.len]
    exact (List.getElem?_eq_some_iff.mp hash).1
  have at_ := List.getElem?_eq_getElem lt
  obtain ⟨c, lc, q⟩ := G.tab.ahead no hash at_
  exact ⟨c, Nat.zero_le _, lc, by rw [q]; exact at_⟩
end
end UTS

namespace UTS
open PySem PySem.Spec PyProof.Rows L2
/-! ### putting in -/
/-- a set of these tuples stands at a -/
def Stands (P : Program) (w : World) (h : Heap) (a : Addr) (L : List (Addr × List Key)) : Prop := ∃ es ep t, UZ.At h a es ep t ∧ Gd P w L es t
section
variable {P : Program} {w : World} {A : Around} {E : Value → Shared → Prop} {s : Shared} {h h' : Heap} {k : List Key} {a x : Addr} {L M : List (Addr × List Key)} {es : Array (Int × Value)} {ep : Nat} {t : SetTable}
theorem Stands.move (S : Stands P w h a L) (keep : ∀ o, h.get? a = some o → h'.get? a = some o) : Stands P w h' a L := by
  obtain ⟨es, ep, t, R, G⟩ := S
  exact ⟨es, ep, t, R.at keep, G⟩
/-- a tuple is not the set -/
theorem Stands.apart (S : Stands P w h a L) (T : Tup P w h k x) : x ≠ a := by
  obtain ⟨es, ep, t, ⟨o, g, _, d⟩, _⟩ := S
  obtain ⟨o', its, n, g', _, d', _⟩ := T
  intro e
  subst e
  rw [g] at g'
  cases g'
  rw [d] at d'
  cases d'
theorem mid_perm {α : Type} (l : List α) (p : Nat) (y : α) : (l.take p ++ y :: l.drop p).Perm (y :: l) := by
  have q : (l.take p ++ y :: l.drop p).Perm (y :: (l.take p ++ l.drop p)) := List.perm_middle
  rwa [List.take_append_drop] at q
/-- the entries in the order in which a new table has them -/
theorem order_of {order : Array Nat} (rows : es.toList = M.map (ent P w)) (perm : order.toList.Perm (List.range M.length)) :
    ∃ L' : List (Addr × List Key), (order.filterMap (es[·]?)).toList = L'.map (ent P w) ∧ L'.Perm M ∧ L'.map (fun p => hsh P w p.2) = order.toList.map fun i => (es.map (·.1)).getD i 0 := by
  have entry : ∀ i, es[i]? = (M[i]?).map (ent P w) := fun i => by rw [← Array.getElem?_toList, rows, List.getElem?_map]
  have whole : (List.range M.length).filterMap (M[·]?) = M := by
    have q := filterMap_getElem?_range M.toArray
    simpa using q
  refine ⟨order.toList.filterMap (M[·]?), ?_, by have q := perm.filterMap (M[·]?); rwa [whole] at q, ?_⟩
  · rw [Array.toList_filterMap, List.map_filterMap]
    exact congrArg (fun f => List.filterMap f _) (funext entry)
  · have low : ∀ i ∈ order.toList, i < M.length := fun i hi => List.mem_range.mp (perm.mem_iff.mp hi)
    generalize order.toList = l at low
    induction l with
    | nil => rfl
    | cons i l ih =>
      have lt := low i List.mem_cons_self
      have e := entry i
      rw [List.getElem?_eq_getElem lt] at e
      rw [List.filterMap_cons_some (List.getElem?_eq_getElem lt), List.map_cons, List.map_cons, ih fun j hj => low j (List.mem_cons_of_mem _ hj)]
      refine congrArg (· :: _) ?_
      rw [Array.getD_eq_getD_getElem?, Array.getElem?_map, e]
      rfl
theorem size77 : SetTable.sizeAbove (SetTable.grown 77) = 512 := by decide +kernel
/-- where a table goes that is too full -/
theorem grows {m n : Nat} (top : m = 7 ∨ m = 31 ∨ m = 127 ∨ m = 511) (room : n * 5 < m * 3) (full : m * 3 ≤ (n + 1) * 5) (few : n + 1 < 307) :
    ∃ m', SetTable.sizeAbove (SetTable.grown (n + 1)) = m' + 1 ∧ (m' = 7 ∨ m' = 31 ∨ m' = 127 ∨ m' = 511) ∧ Rounds m' ∧ (n + 1) * 5 < m' * 3 := by
  rcases top with rfl | rfl | rfl | rfl
  · obtain rfl : n = 4 := by omega
    exact ⟨31, size_20, .inr (.inl rfl), rounds31, by decide⟩
  · obtain rfl : n = 18 := by omega
    exact ⟨127, size_76, .inr (.inr (.inl rfl)), rounds127, by decide⟩
  · obtain rfl : n = 76 := by omega
    exact ⟨511, size77, .inr (.inr (.inr rfl)), rounds511, by decide⟩
  · omega
/-- the table laid anew -/
theorem relay {n m : Nat} {Q : Unit → Shared → Prop} (R : UZ.At s.heap a es ep t) (rows : es.toList = M.map (ent P w)) (tab : Tb t (M.map fun p => hsh P w p.2)) (few : M.length ≤ t.mask) (nd : (M.map (·.2)).Nodup) (led : w.params.followText "set-order" = true ∨ t.led = true)
    (hn : SetTable.sizeAbove n = m + 1) (top : m = 7 ∨ m = 31 ∨ m = 127 ∨ m = 511) (rnd : Rounds m) (room : M.length * 5 < m * 3)
    (fin : ∀ h' L', Heap.SameBut a s.heap h' → Stands P w h' a L' → L'.Perm M → Q () { s with heap := h' }) : wpAny (model P w) A (setRelay a n) Q E s := by
  have size : es.size = M.length := by rw [← Array.length_toList, rows, List.length_map]
  have fit : t.fits es.size = true := by
    have f := tab.fits (by rw [List.length_map]; exact few)
    rwa [List.length_map, ← size] at f
  obtain ⟨t', order, e, perm, tab', mask', led', plain'⟩ := laid (t := t) (hs := es.map (·.1)) (n := n) (m := m) (by rw [hn]; rfl) rnd (by rw [Array.size_map, size]; omega)
  rw [Array.size_map, size] at perm
  obtain ⟨L', rows', perm', hashes⟩ := order_of rows perm
  rw [← hashes] at tab'
  have size' : (order.filterMap (es[·]?)).size = es.size := by rw [← Array.length_toList, rows', List.length_map, perm'.length_eq, size]
  rw [setRelay_eq]
  refine wpAny_bind (R.state fit ?_)
  dsimp only
  rw [if_neg (by rw [hn, sizeLine_eq]; omega)]
  rw [e]
  refine wpAny_bind ?_
  dsimp only
  rw [size', if_neg (by simp)]
  refine wpAny_bind (wpAny_pure (wpAny_pure ?_))
  refine R.store (by rw [size', size, sizeLine_eq]; omega) fun h1 only there => fin h1 L' only ⟨_, _, t', there, rows', tab', (perm'.map (·.2)).nodup_iff.mpr nd, by rw [led']; exact led, by rw [perm'.length_eq, mask']; exact room, by rw [mask']; exact top⟩ perm'
/-- one more, if its like is not there -/
theorem add {Q : Bool → Shared → Prop} (S : Stands P w s.heap a L) (all : All P w s.heap L) (T : Tup P w s.heap k x) (hu : A.units < cLine) (few : L.length + 1 < 307)
    (fin : ∀ b h' L', Heap.SameBut a s.heap h' → Stands P w h' a L' → (L' = L ∧ k ∈ L.map (·.2)) ∨ (L'.Perm ((x, k) :: L) ∧ k ∉ L.map (·.2)) → Q b { s with heap := h' }) : wpAny (model P w) A (setAddHashed a (.ref x) (hsh P w k)) Q E s := by
  obtain ⟨es, ep, t, R, G⟩ := S
  unfold setAddHashed
  refine wpAny_holding ?_
  rw [show (100000 : Nat) = 99999 + 1 from rfl, setAddHashedIn_succ]
  refine wpAny_bind (R.state G.fit ?_)
  dsimp only
  rw [if_neg (by simp [byScan, Value.scannable])]
  refine wpAny_bind (search R G all T hu (fun old => ?_) fun j new le no sits => ?_)
  · exact wpAny_pure (fin false s.heap L (Heap.SameBut.refl a s.heap) ⟨es, ep, t, R, G⟩ (.inl ⟨rfl, old⟩))
  dsimp only
  refine wpAny_bind (R.state G.fit ?_)
  dsimp only
  obtain ⟨p, hp⟩ : ∃ p, SetTable.below t.place j = p := ⟨_, rfl⟩
  obtain ⟨lp, tab1⟩ := G.tab.more hp le no sits
  rw [List.length_map] at lp
  have split : (L.map fun p => hsh P w p.2).take p ++ hsh P w k :: (L.map fun p => hsh P w p.2).drop p = (L.take p ++ (x, k) :: L.drop p).map fun p => hsh P w p.2 := by rw [List.map_append, List.map_cons, List.map_take, List.map_drop]
  rw [split] at tab1
  have perm : (L.take p ++ (x, k) :: L.drop p).Perm ((x, k) :: L) := mid_perm L p (x, k)
  have rows1 : (SetTable.insertAt es p (hsh P w k, Value.ref x)).toList = (L.take p ++ (x, k) :: L.drop p).map (ent P w) := by
    rw [SetTable.toList_insertAt, G.rows, List.map_append, List.map_cons, List.map_take, List.map_drop]
    rfl
  have nd1 : ((L.take p ++ (x, k) :: L.drop p).map (·.2)).Nodup := (perm.map (·.2)).nodup_iff.mpr (by rw [List.map_cons]; exact List.nodup_cons.mpr ⟨new, G.nd⟩)
  have len1 := perm.length_eq
  have mask1 : (t.put j).1.mask = t.mask := rfl
  have led1 : (t.put j).1.led = t.led := rfl
  rw [show (t.put j).2 = p from hp]
  generalize L.take p ++ (x, k) :: L.drop p = M at perm rows1 nd1 len1 tab1
  generalize SetTable.insertAt es p (hsh P w k, Value.ref x) = fs at rows1 ⊢
  generalize (t.put j).1 = u at tab1 mask1 led1 ⊢
  have size1 : fs.size = M.length := by rw [← Array.length_toList, rows1, List.length_map]
  have count : M.length = L.length + 1 := len1
  have room := G.room
  have last : ∀ b : Bool, ∀ v : SetTable, v = { u with plain := b } ∨ v = u → wpAny (model P w) A (do storeSet a fs v; if (!false && v.tooFull) = true then (do setRelay a (SetTable.grown (es.size + 1)); pure true) else pure true) Q E s := fun b v hv => by
    have tab2 : Tb v (M.map fun p => hsh P w p.2) := by
      rcases hv with rfl | rfl
      · exact tab1.marked b
      · exact tab1
    have mask2 : v.mask = t.mask := by rcases hv with rfl | rfl <;> exact mask1
    have led2 : w.params.followText "set-order" = true ∨ v.led = true := by
      have : v.led = t.led := by rcases hv with rfl | rfl <;> exact led1
      rw [this]
      exact G.led
    have fill : v.fill = M.length := by
      unfold SetTable.fill
      rw [tab2.dm, tab2.sz, List.length_map]
      rfl
    refine wpAny_bind (R.store (by rw [size1, count, sizeLine_eq]; omega) fun h1 only there => ?_)
    refine wpAny_ite_split (fun full => ?_) fun full => ?_
    · have enough : v.mask * 3 ≤ M.length * 5 := by
        have q : v.tooFull = true := by simpa using full
        unfold SetTable.tooFull at q
        rw [fill] at q
        exact of_decide_eq_true q
      rw [G.size]
      rw [mask2, count] at enough
      obtain ⟨m', g1, g2, g3, g4⟩ := grows G.top room enough few
      refine wpAny_bind (relay (s := { s with heap := h1 }) there rows1 tab2 (by rw [mask2, count]; rcases G.top with e | e | e | e <;> omega) nd1 led2 g1 g2 g3 (by rw [count]; exact g4) fun h2 L' only2 S' perm2 => ?_)
      exact wpAny_pure (fin true h2 L' (only.trans only2) S' (.inr ⟨perm2.trans perm, new⟩))
    · refine wpAny_pure (fin true h1 M only ⟨fs, ep + 1, v, there, rows1, tab2, nd1, led2, ?_, by rw [mask2]; exact G.top⟩ (.inr ⟨perm, new⟩))
      have q : ¬ v.tooFull = true := by simpa using full
      unfold SetTable.tooFull at q
      rw [fill, decide_eq_true_eq] at q
      omega
  have known : ∀ Z : Sem Bool, (∀ R' : Bool → Shared → Prop, (∀ b, R' b s) → wpAny (model P w) A Z R' E s) → wpAny (model P w) A (do let b ← Z; storeSet a fs (if b = true then u else { u with plain := false }); if (!false && (if b = true then u else { u with plain := false }).tooFull) = true then (do setRelay a (SetTable.grown (es.size + 1)); pure true) else pure true) Q E s := fun Z hz => by
    refine wpAny_bind (hz _ fun b => ?_)
    cases b with
    | true => exact last true _ (.inr rfl)
    | false => exact last false _ (.inl rfl)
  have both := known (if u.plain = true then hashByValue 8 (.ref x) else pure true) fun R' q => by
    by_cases c : u.plain = true
    · rw [if_pos c]
      exact byValue_tup T q
    · rw [if_neg c]
      exact wpAny_pure (q true)
  by_cases c : u.plain = true
  · rw [if_pos c] at both ⊢
    exact both
  · rw [if_neg c] at both ⊢
    exact both
end
end UTS

namespace UTS
open PySem PySem.Spec PyProof.Rows L2
/-! ### a set of the items of a list or a tuple -/
/-- what was put in of the first i ones -/
structure Put (ks : List (Addr × List Key)) (i : Nat) (L : List (Addr × List Key)) : Prop where
  sub : ∀ p ∈ L, p ∈ ks
  all : ∀ p ∈ ks.take i, p.2 ∈ L.map (·.2)
theorem Put.none (ks : List (Addr × List Key)) : Put ks 0 [] := ⟨fun p h => by simp at h, fun p h => by simp at h⟩
theorem Put.next {ks L L' : List (Addr × List Key)} {i : Nat} {p : Addr × List Key} (B : Put ks i L) (e : ks[i]? = some p) (got : (L' = L ∧ p.2 ∈ L.map (·.2)) ∨ (L'.Perm (p :: L) ∧ p.2 ∉ L.map (·.2))) : Put ks (i + 1) L' := by
  have cut : ks.take (i + 1) = ks.take i ++ [p] := by rw [List.take_add_one, e]; rfl
  rcases got with ⟨rfl, old⟩ | ⟨perm, _⟩
  · refine ⟨B.sub, fun q hq => ?_⟩
    rw [cut, List.mem_append, List.mem_singleton] at hq
    exact hq.elim (B.all q) fun e => e ▸ old
  · refine ⟨fun q hq => ?_, fun q hq => ?_⟩
    · rcases List.mem_cons.mp (perm.mem_iff.mp hq) with e' | h
      · rw [e']
        exact List.mem_of_getElem? e
      · exact B.sub q h
    · rw [(perm.map (·.2)).mem_iff, List.map_cons]
      rw [cut, List.mem_append, List.mem_singleton] at hq
      exact hq.elim (fun h => List.mem_cons_of_mem _ (B.all q h)) fun e => e ▸ List.mem_cons_self
/-- how many unlike ones there can be -/
def Few (ks : List (Addr × List Key)) : Prop := ∀ D : List (List Key), D.Nodup → (∀ k ∈ D, k ∈ ks.map (·.2)) → D.length < 306
theorem Few.of {ks : List (Addr × List Key)} (n : ks.length < 306) : Few ks := fun D nd sub => by
  have := nd.length_le_of_subset (l₂ := ks.map (·.2)) fun {k} h => sub k h
  rw [List.length_map] at this
  omega
section
variable {P : Program} {w : World} {A : Around} {E : Value → Shared → Prop} {s : Shared} {a : Addr}
theorem loop {I S : Addr} {fp wr : List Addr} {G : Array GenState → Array GenState → Prop} {Pv : Nat → Value → Prop} {St : Nat → Shared → Prop} {R : Result → Shared → Prop} (ks : List (Addr × List Key))
    (W : WalksS P w A.in1 I fp wr G ks.length Pv St) (off : S ∉ fp) (hu : A.in1.units < cLine) (few : Few ks) (hv : ∀ i v, Pv i v → ∃ p, ks[i]? = some p ∧ v = .ref p.1) (all : ∀ z, Moved (S :: wr) G s z → All P w z.heap ks)
    (fin : ∀ z L, Moved (S :: wr) G s z → Stands P w z.heap S L → Put ks ks.length L → R (.ok (.ret .none)) z) :
    ∀ (left i : Nat) (z : Shared), i + left = ks.length → Moved (S :: wr) G s z → St i z → (∃ L, Stands P w z.heap S L ∧ Put ks i L) → codeAny (model P w) A (.builtin "set.update.loop" ⟨[.ref S, .ref I], []⟩) R z
  | 0, i, z, e, mv, st, so => by
    have off' : S ∉ wr := fun y => off (W.sub _ y)
    obtain ⟨L, there, put⟩ := so
    refine codeAny_builtin PyProof.Rows.F.entry_set_update_loop ?_
    rw [Around.under_plainId PyProof.Rows.F.plain_set_update_loop _]
    obtain rfl : i = ks.length := e
    exact wpAny_bind (m := pyNext (.ref I)) (W.done z _ _ st fun z' mv' => wpAny_pure (fin z' L (mv.trans W.gtrans (mv'.mono fun c hc => List.mem_cons_of_mem _ hc)) (there.move fun o ho => mv'.heap S o off' ho) put))
  | left + 1, i, z, e, mv, st, so => by
    have off' : S ∉ wr := fun y => off (W.sub _ y)
    obtain ⟨L, there, put⟩ := so
    refine codeAny_builtin PyProof.Rows.F.entry_set_update_loop ?_
    rw [Around.under_plainId PyProof.Rows.F.plain_set_update_loop _]
    refine wpAny_bind (m := pyNext (.ref I)) (W.item i z _ _ (by omega) st fun v z' hP st' mv' => ?_)
    obtain ⟨p, hp, rfl⟩ := hv i v hP
    have mv2 := mv.trans W.gtrans (mv'.mono fun c hc => List.mem_cons_of_mem _ hc)
    have here := all z' mv2
    have T : Tup P w z'.heap p.2 p.1 := here p (List.mem_of_getElem? hp)
    have there' : Stands P w z'.heap S L := there.move fun o ho => mv'.heap S o off' ho
    have nd : (L.map (·.2)).Nodup := by
      obtain ⟨_, _, _, _, G⟩ := there
      exact G.nd
    have some_ := few _ nd fun k hk => by
      obtain ⟨q, hq, rfl⟩ := List.mem_map.mp hk
      exact List.mem_map.mpr ⟨q, put.sub q hq, rfl⟩
    rw [List.length_map] at some_
    unfold setAdd
    refine wpAny_bind (wpAny_holding (wpAny_holding (wpAny_bind (wpAny_pyHash_tuple hu T (add (s := { z' with toks := z'.toks + (p.2.length + 1) }) there' (fun q hq => here q (put.sub q hq)) T hu (by omega) fun b h2 L' only S' got => wpAny_pure ⟨plainId_quiet PyProof.Rows.F.plain_set_update_loop _, ?_⟩)))))
    have keep : ∀ c, c ≠ S → ∀ o, z'.heap.get? c = some o → h2.get? c = some o := fun c hc o ho => (only.2 c hc).trans ho
    exact loop ks W off hu few hv all fin left (i + 1) _ (by omega) (mv2.then_heap (Nat.le_add_right _ _) fun c o hc ho => keep c (fun y => hc (y ▸ List.mem_cons_self)) o ho) (W.frame _ z' _ _ st' (Nat.le_add_right _ _) fun c hc o ho => keep c (fun y => off (y ▸ hc)) o ho) ⟨L', S', put.next hp got⟩
/-- S.update(l), S new, l a list or a tuple of tuples -/
theorem fill {S l : Addr} {its : Array Value} (name : String) (ks : List (Addr × List Key)) {Q : Unit → Shared → Prop} (hh : A.handled = none) (hu : A.in1.units < cLine) (src : s.heap.IsList l its ∨ s.heap.IsTuple l its) (hv : ∀ (i : Nat) (v : Value), its[i]? = some v → ∃ p, ks[i]? = some p ∧ v = .ref p.1) (hn : its.size = ks.length) (few : Few ks) (all : All P w s.heap ks)
    (new : Stands P w s.heap S []) (fin : ∀ h' tk L, Stands P w h' S L → Put ks ks.length L → (∀ b o, b ≠ S → s.heap.get? b = some o → h'.get? b = some o) → Q () { s with heap := h', toks := tk }) : wpAny (model P w) A (Builtin.Frozenset.updateFrom name S (.ref l)) Q E s := by
  have ⟨_, _, _, ⟨oS, gS, xS, dS⟩, _⟩ := new
  have ltS : S < s.heap.objs.size := Heap.lt_size gS
  have walk : ∀ (o : Obj) {St : Nat → Heap → Prop}, S ≠ l → (∀ B : Around, B.handled = none → Walks P w B s.heap.objs.size [s.heap.objs.size, l] [s.heap.objs.size] its.size (fun i v => its[i]? = some v) St) → St 0 (s.heap.push o) →
      wpAny (model P w) A (do let _ ← runValue (.builtin "set.update.loop" ⟨[.ref S, .ref s.heap.objs.size], []⟩); pure ()) Q E { s with heap := s.heap.push o } := fun o St ne W st => by
    have W1 := (W A.in1 hh).toS
    rw [hn] at W1
    refine wpAny_bind (wpAny_runValue (loop (s := { s with heap := s.heap.push o }) ks W1 (fun y => ?_) hu few hv (fun z mv p hp => ?_) (fun z L mv there put => ?_) ks.length 0 _ (Nat.zero_add _) (Moved.refl W1.grefl) st ⟨[], new.move fun o g => Heap.get?_push_of_some _ g, Put.none ks⟩))
    · rcases List.mem_cons.mp y with e | e
      · exact absurd e (Nat.ne_of_lt ltS)
      · exact ne (List.mem_singleton.mp e)
    · have T := all p hp
      refine T.move fun o g => mv.heap p.1 o (fun y => ?_) (Heap.get?_push_of_some _ g)
      rcases List.mem_cons.mp y with e | e
      · exact new.apart T e
      · exact absurd (List.mem_singleton.mp e) (Nat.ne_of_lt (Heap.lt_size g))
    · obtain ⟨h2, g2, d2, tk2, os2⟩ := z
      obtain rfl : g2 = s.gens := mv.gens
      obtain rfl : d2 = s.drawn := mv.drawn
      obtain rfl : os2 = s.os := mv.os
      refine wpAny_pure (fin h2 tk2 L there put fun b ob nb hb => mv.heap b ob (fun y => ?_) (Heap.get?_push_of_some _ hb))
      rcases List.mem_cons.mp y with e | e
      · exact nb e
      · exact absurd (List.mem_singleton.mp e) (Nat.ne_of_lt (Heap.lt_size hb))
  have apart : ∀ {o : Obj} {xs : Array Value} {n : Nat}, s.heap.get? l = some o → o.data = .seq xs n → S ≠ l := fun {o xs n} g d e => by
    subst e
    rw [gS] at g
    cases g
    rw [dS] at d
    cases d
  unfold Builtin.Frozenset.updateFrom
  rcases src with il | il
  · obtain ⟨o, g, c, n, d⟩ := id il
    have ty : s.TypeIs (.ref l) "list" := ⟨o, g, c⟩
    refine wpAny_bind (UZ.any_no ty PySem.F.sub_list_set PySem.F.sub_list_frozenset ?_)
    rw [if_neg (by decide)]
    refine wpAny_bind (wpAny_typeOf ty ?_)
    rw [if_neg (by decide)]
    refine wpAny_bind (wpAny_pyIter_list il ?_)
    exact walk _ (apart g d) (fun B hB => Walks.list hB _ l (Nat.ne_of_lt (Heap.lt_size g)) its) ⟨⟨_, Heap.get?_push_size _ rfl, rfl, rfl⟩, Heap.IsList.push il _⟩
  · obtain ⟨o, g, c, n, d⟩ := id il
    have ty : s.TypeIs (.ref l) "tuple" := ⟨o, g, c⟩
    refine wpAny_bind (UZ.any_no ty PySem.F.sub_tuple_set PySem.F.sub_tuple_frozenset ?_)
    rw [if_neg (by decide)]
    refine wpAny_bind (wpAny_typeOf ty ?_)
    rw [if_neg (by decide)]
    refine wpAny_bind (wpAny_pyIter_tuple il ?_)
    exact walk _ (apart g d) (fun B hB => Walks.tuple hB _ l (Nat.ne_of_lt (Heap.lt_size g)) its) ⟨⟨_, Heap.get?_push_size _ rfl, rfl, rfl⟩, Heap.IsTuple.push il _⟩
/-- set(l) -/
theorem call_set {l : Addr} {its : Array Value} (ks : List (Addr × List Key)) {Q : Value → Shared → Prop} (hh : A.handled = none) (hu : A.in1.in1.in1.units < cLine) (src : s.heap.IsList l its ∨ s.heap.IsTuple l its) (hv : ∀ (i : Nat) (v : Value), its[i]? = some v → ∃ p, ks[i]? = some p ∧ v = .ref p.1) (hn : its.size = ks.length) (few : Few ks) (all : All P w s.heap ks)
    (fin : ∀ h' tk L, Stands P w h' s.heap.objs.size L → Put ks ks.length L → (∀ b o, s.heap.get? b = some o → h'.get? b = some o) → Q (.ref s.heap.objs.size) { s with heap := h', toks := tk }) : wpAny (model P w) A (call (.type "set") [.ref l]) Q E s := by
  refine UZ.call_set_by (fun h' => ∃ L, Stands P w h' s.heap.objs.size L ∧ Put ks ks.length L) (fun h1 t keep R G seven none_ => ?_) fun h' tk made keep => ?_
  · have old : h1.IsList l its ∨ h1.IsTuple l its := src.imp (fun z => z.at fun o e => keep _ o e) fun z => z.at fun o e => keep _ o e
    have empty : t.place = #[] := by
      have f := G.fit
      unfold SetTable.fits at f
      exact Array.eq_empty_of_size_eq_zero (beq_iff_eq.mp (Bool.and_eq_true_iff.mp f).1)
    have gd : Gd P w [] #[] t := ⟨rfl, ⟨by rw [empty]; exact List.Pairwise.nil, none_, by rw [empty]; rfl, by rw [seven]; exact rounds7, fun x hx => by rw [empty] at hx; simp at hx, fun i h j e => by simp at e⟩, List.nodup_nil, G.led, by rw [seven]; decide, .inl seven⟩
    exact fill (A := A.in1.in1) (s := { s with heap := h1 }) _ ks hh hu old hv hn few (fun p hp => (all p hp).move fun o g => keep _ o g) ⟨_, _, t, R, gd⟩ fun h2 tk L there put rest => ⟨h2, tk, rfl, ⟨L, there, put⟩, fun b o e => rest b o (Nat.ne_of_lt (Heap.lt_size e)) (keep b o e)⟩
  · obtain ⟨L, there, put⟩ := made
    exact fin h' tk L there put keep
end
/-! ### as rules, for pairs of texts -/
/-- a set of tuples at a -/
def TuO (P : Program) (w : World) (a : Addr) (L : List (Addr × List Key)) : HO := .ext fun h => Stands P w h a L
section
open UW UP UD
theorem tuO_new {w : World} {P : Program} {H : Hp} {h : Heap} {a : Addr} {L : List (Addr × List Key)} (S : Stands P w h a L) : ObjOk P w H h a (TuO P w a L) := by
  have ⟨_, _, _, ⟨o, here, _⟩, _⟩ := S
  exact ⟨S, ⟨o, here⟩, fun h1 h2 p k => Stands.move p k⟩
variable {X : Cx}
theorem tuO_get {pins : List (Addr × Obj)} {σ : L2.St} {H : Hp} {s : Shared} {a : Addr} {L : List (Addr × List Key)} (I : L2.Inv X pins σ H s) (ha : H a = some (TuO X.prog X.w a L)) : Stands X.prog X.w s.heap a L := (I.hok a _ ha).1
/-- the pairs, by where they stand -/
theorem prH_list {H : Hp} {xs : List V} {ds : List (Str × Str)} (p : PrH H xs ds) : ∃ ks : List (Addr × List Key), xs = ks.map (fun q => V.ref q.1) ∧ ks.map (·.2) = ds.map key2 ∧ ∀ q ∈ ks, H q.1 = some (.tup (q.2.map kV)) := by
  induction p with
  | nil => exact ⟨[], rfl, rfl, fun q h => by simp at h⟩
  | @cons t d _ _ h _ ih =>
    obtain ⟨ks, e1, e2, e3⟩ := ih
    refine ⟨(t, key2 d) :: ks, by rw [e1]; rfl, by rw [List.map_cons, e2]; rfl, fun q hq => ?_⟩
    rcases List.mem_cons.mp hq with rfl | hq
    · exact h
    · exact e3 q hq
/-- what the set of these pairs holds: each one of them, once -/
structure PrS (H : Hp) (L : List (Addr × List Key)) (es : List (Str × Str)) : Prop where
  keys : L.map (·.2) = es.map key2
  at_ : ∀ q ∈ L, H q.1 = some (.tup (q.2.map kV))
/-- set(xs), xs a list or a tuple of pairs of texts -/
def rSetP (K : PySem.W.Frag) (P : Program) (w : World) : List V → Hp → VK → Prop := fun vs H Q => ∃ (l : Addr) (xs : List V) (ds : List (Str × Str)), vs = [.ref l] ∧ (SqL K H l xs ∨ SqT K H l xs) ∧ PrH H xs ds ∧ (∀ es : List (Str × Str), es.Nodup → (∀ d ∈ es, d ∈ ds) → es.length < 306) ∧
  ∀ p L es, H p = none → PrS H L es → es.Nodup → (∀ d, d ∈ es ↔ d ∈ ds) → Q (.ref p) (upd H p (TuO P w p L))
theorem cr_setP (hc : X.calm = true) (hu : X.A.units + 64 < cLine) : CallR X (.type "set") (rSetP X.K X.prog X.w) := fun pins s σ H vs us Q I r h => by
  obtain ⟨l, xs, ds, rfl, hs, hp, few, q⟩ := h
  obtain ⟨ks, rfl, keys, tups⟩ := prH_list hp
  obtain ⟨its, rv, src⟩ : ∃ its : List Value, Vals (ks.map fun q => V.ref q.1) its ∧ (s.heap.IsList l its.toArray ∨ s.heap.IsTuple l its.toArray) := by
    rcases hs with hs | hs
    · obtain ⟨its, rv, hl, _⟩ := I.list hs
      exact ⟨its, rv, .inl hl.isList⟩
    · obtain ⟨its, rv, hl, _⟩ := I.tuple hs
      exact ⟨its, rv, .inr hl⟩
  rw [Vals.ref1 r]
  have decode : ∀ D : List (List Key), (∀ k ∈ D, k ∈ ks.map (·.2)) → ∃ es : List (Str × Str), D = es.map key2 ∧ ∀ d ∈ es, d ∈ ds := by
    intro D
    induction D with
    | nil => exact fun _ => ⟨[], rfl, fun d h => by simp at h⟩
    | cons k D ih =>
      intro sub
      obtain ⟨es, e1, e2⟩ := ih fun k' h => sub k' (List.mem_cons_of_mem _ h)
      have hk := sub k List.mem_cons_self
      rw [keys] at hk
      obtain ⟨d, hd, rfl⟩ := List.mem_map.mp hk
      exact ⟨d :: es, by rw [e1]; rfl, fun d' h => (List.mem_cons.mp h).elim (fun e => e ▸ hd) (e2 d')⟩
  have unlike : ∀ {es : List (Str × Str)}, (es.map key2).Nodup ↔ es.Nodup := fun {es} => by
    unfold List.Nodup
    rw [List.pairwise_map]
    exact ⟨fun z => z.imp fun n e => n (congrArg key2 e), fun z => z.imp fun n e => n (key2_inj e)⟩
  have roomK : Few ks := fun D nd sub => by
    obtain ⟨es, rfl, h⟩ := decode D sub
    rw [List.length_map]
    exact few es (unlike.mp nd) h
  refine call_set ks (I.ok.hd hc) (show X.A.units + 1 + 1 + 1 < cLine by omega) src (fun i v hi => ?_) (by rw [List.size_toArray, ← rv.length, List.length_map]) roomK (fun q hq => key_of I.hok (tups q hq)) fun h' tk L there put keep => ?_
  · obtain ⟨x, hx, rx⟩ := UP.vals_get rv (show its[i]? = some v by rw [← List.getElem?_toArray]; exact hi)
    rw [List.getElem?_map] at hx
    obtain ⟨p, hp, rfl⟩ := Option.map_eq_some_iff.mp hx
    exact ⟨p, hp, rx⟩
  · have nd : (L.map (·.2)).Nodup := by
      obtain ⟨_, _, _, _, G⟩ := there
      exact G.nd
    obtain ⟨es, e1, e2⟩ := decode (L.map (·.2)) fun k hk => by
      obtain ⟨q, hq, rfl⟩ := List.mem_map.mp hk
      exact List.mem_map.mpr ⟨q, put.sub q hq, rfl⟩
    have free : H s.heap.objs.size = none := I.hok.fresh (Nat.le_refl _)
    have J : L2.Inv X pins σ (upd H s.heap.objs.size (TuO X.prog X.w s.heap.objs.size L)) { s with heap := h', toks := tk } := I.laid (t' := tk) keep (Nat.le_refl _) (tuO_new there)
    refine ⟨.ref _, _, J, rfl, q _ L es free ⟨e1, fun q hq => tups q (put.sub q hq)⟩ (unlike.mp (e1 ▸ nd)) fun d => ⟨e2 d, fun hd => ?_⟩⟩
    have hk : key2 d ∈ ks.map (·.2) := by
      rw [keys]
      exact List.mem_map.mpr ⟨d, hd, rfl⟩
    obtain ⟨q, hq, e⟩ := List.mem_map.mp hk
    have last := put.all q (by rw [List.take_length]; exact hq)
    rw [e, e1] at last
    exact key2_mem.mp last
/-- len(ps), ps a set of pairs -/
def rLenP (P : Program) (w : World) : List V → Hp → VK → Prop := fun vs H Q => ∃ (a : Addr) (L : List (Addr × List Key)), vs = [.ref a] ∧ H a = some (TuO P w a L) ∧ Q (.int L.length) H
theorem cr_lenP : CallR X (.builtin "len") (rLenP X.prog X.w) := fun pins s σ H vs us Q I r h => by
  obtain ⟨a, L, rfl, ha, q⟩ := h
  rw [Vals.ref1 r]
  obtain ⟨es, ep, t, ⟨o, g, x, d⟩, G⟩ := tuO_get I ha
  have few := G.few
  refine call_len_set g x d G.fit (by rw [G.size]; omega) ⟨.int L.length, H, I.tok _, ⟨_, by rw [G.size]⟩, q⟩
/-- the pair at a value -/
def pairAt (H : Hp) (v : Value) : Str × Str := match v with
  | .ref a => match H a with
    | some (.tup [.str x, .str y]) => (x, y)
    | _ => (Str.empty, Str.empty)
  | _ => (Str.empty, Str.empty)
theorem pairAt_of {H : Hp} {q : Addr × List Key} {d : Str × Str} (e : q.2 = key2 d) (h : H q.1 = some (.tup (q.2.map kV))) : pairAt H (.ref q.1) = d := by
  rw [e] at h
  unfold pairAt
  have h' : H q.1 = some (.tup [.str d.1, .str d.2]) := h
  dsimp only
  rw [h']
/-- sorted(ps), ps a set of pairs of texts -/
def rSortS (P : Program) (w : World) : List V → Hp → VK → Prop := fun vs H Q => ∃ (a : Addr) (L : List (Addr × List Key)) (es : List (Str × Str)), vs = [.ref a] ∧ H a = some (TuO P w a L) ∧ PrS H L es ∧ ∀ p ys, H p = none → PrH H ys (srtP es) → Q (.ref p) (upd H p (.lst ys))
theorem cr_sortS (hc : X.calm = true) (hu : X.A.units + 64 < cLine) : CallR X (.builtin "sorted") (rSortS X.prog X.w) := fun pins s σ H vs us Q I r h => by
  obtain ⟨a, L, es, rfl, ha, pr, q⟩ := h
  rw [Vals.ref1 r]
  obtain ⟨en, ep, t, ⟨o, g, x, d⟩, G⟩ := tuO_get I ha
  have few := G.few
  have size : es.length = L.length := by
    have := congrArg List.length pr.keys
    rw [List.length_map, List.length_map] at this
    exact this.symm
  have vals : en.toList.map (·.2) = L.map fun q => Value.ref q.1 := by
    rw [G.rows, List.map_map]
    rfl
  have pairs : (L.map fun q => Value.ref q.1).map (pairAt H) = es := by
    rw [List.map_map]
    have : ∀ (L : List (Addr × List Key)) (es : List (Str × Str)), L.map (·.2) = es.map key2 → (∀ q ∈ L, H q.1 = some (.tup (q.2.map kV))) → L.map (pairAt H ∘ fun q => Value.ref q.1) = es := by
      intro L
      induction L with
      | nil =>
        intro es e _
        cases es with
        | nil => rfl
        | cons _ _ => cases e
      | cons q L ih =>
        intro es e at_
        cases es with
        | nil => cases e
        | cons d es =>
          rw [List.map_cons, List.map_cons] at e
          injection e with e1 e2
          rw [List.map_cons, ih es e2 fun q' h => at_ q' (List.mem_cons_of_mem _ h)]
          exact congrArg (· :: es) (pairAt_of e1 (at_ q List.mem_cons_self))
    exact this L es pr.keys pr.at_
  refine Calls.call_function_entry PyProof.Rows.kind_sorted PyProof.Rows.plain_sorted PyProof.Rows.entry_sorted (PyProof.Rows.args_sorted1 _) ?_
  unfold Builtin.«sorted»
  refine wpAny_bind (m := checkCount "sorted" 1 1 _) (wpAny_pure ?_)
  refine wpAny_bind (collect_set (A := X.A.in1) (I.ok.hd hc) ⟨o, g, x.1, d⟩ G.fit (by rw [G.size]; unfold scanBound; omega) G.tab.ris G.led fun z out keep wide gens os perm => ?_)
  rw [vals] at perm
  have at_ : ∀ v ∈ out, RH H v (pairAt H v) := fun v hv => by
    obtain ⟨p, hp, rfl⟩ := List.mem_map.mp (perm.mem_iff.mp hv)
    have hk : p.2 ∈ es.map key2 := by
      rw [← pr.keys]
      exact List.mem_map.mpr ⟨p, hp, rfl⟩
    obtain ⟨d, _, e⟩ := List.mem_map.mp hk
    have th := pr.at_ p hp
    rw [pairAt_of e.symm th]
    rw [← e] at th
    exact ⟨p.1, rfl, th⟩
  have each : ∀ l : List Value, (∀ v ∈ l, RH H v (pairAt H v)) → PySem.W.EachIs (RH H) l (l.map (pairAt H)) := by
    intro l
    induction l with
    | nil => exact fun _ => .nil
    | cons v l ih => exact fun h => .cons (h v List.mem_cons_self) (ih fun u hu => h u (List.mem_cons_of_mem _ hu))
  have eachOut := each out at_
  have sameP : (out.map (pairAt H)).Perm es := by
    have := perm.map (pairAt H)
    rwa [pairs] at this
  have lenOut : out.length = es.length := by
    have := sameP.length_eq
    rwa [List.length_map] at this
  obtain ⟨ws, rw_, pw⟩ := each_prH eachOut
  have ez : z = { s with heap := z.heap, gens := z.gens, drawn := z.drawn, toks := z.toks } := by
    obtain ⟨_, _, _, _, _⟩ := z
    obtain ⟨_, _, _, _, _⟩ := s
    cases os
    rfl
  have I1 : L2.Inv X pins σ H { s with heap := z.heap, gens := z.gens, drawn := z.drawn, toks := z.toks } :=
    I.call (ch := []) (Un.kept keep) (I.hok.kept keep) (by rw [gens]; exact I.bare) (fun _ z => nomatch z)
  rw [← ez] at I1
  have room : out.length ≤ sizeLine := by rw [lenOut, size, sizeLine_eq]; omega
  refine wpAny_bind (wpAny_newList ?_ room)
  have here : (z.heap.push (seqObj "list" out.toArray 0)).get? z.heap.objs.size = some (seqObj "list" out.toArray 0) := Heap.get?_push_size _ rfl
  have reads : PySem.W.EachIs (fun v b => ∃ as, PySem.Reads (z.heap.push (seqObj "list" out.toArray 0)) v (enc2 b) as ∧ z.heap.objs.size ∉ as) out (out.map (pairAt H)) :=
    (each_reads I1 pw rw_).mono fun v b ⟨as, rd⟩ => ⟨as, PyProof.Rows.Reads.keeps (fun _ _ e => Heap.get?_push_of_some _ e) rd, by rw [reads2 rd]; simp⟩
  refine wpAny_bind (wpAny_holding (PySem.W.list_sort_data (A := X.A.in1) (s := { z with heap := z.heap.push (seqObj "list" out.toArray 0) }) (R := RH H) (enc := enc2) here eachOut reads (alike2 _) (sortable2 _) (by rw [List.length_map]; exact room) (fun b _ => by rw [depth2]; show X.A.units + 1 + 1 + 1 < cLine; omega) fun out2 hlen hout => ?_))
  rw [sort_eq, srtP_congr sameP] at hout
  obtain ⟨ys, ry, py⟩ := each_prH hout
  obtain ⟨e2, at2⟩ := PyProof.Rows.sortedHeap_at (vs := out) (out := out2.toArray) here
  have I2 := I1.laid (a := z.heap.objs.size) (o := .lst ys) (h' := sortedHeap (z.heap.push (seqObj "list" out.toArray 0)) z.heap.objs.size out out2.toArray) (t' := z.toks) (fun b u e => by
    have lt : b < z.heap.objs.size := Heap.lt_size e
    rw [PyProof.Rows.sortedHeap_old (Nat.ne_of_lt lt) (by rw [size_push']; exact Nat.lt_succ_of_lt lt)]
    exact Heap.get?_push_of_some _ e) (Nat.le_refl _) ⟨by rw [py.len, srtP_len, size, sizeLine_eq]; omega, out2, e2, ry, at2⟩
  exact wpAny_pure ⟨_, rfl, .ref z.heap.objs.size, _, I2, rfl, q _ ys (I1.hok.fresh (Nat.le_refl _)) py⟩
end
end UTS
-- US
-- UZ
-- UTS
-- UH
namespace K17
open PySem L2 UW UP UT UD
def topS (i : Nat) : Stmt := PySem.Challenge.pw_unitwants_k17_whole_least_closures.main.body.getD i (.Pass ⟨0, 0, 0, 0⟩)
abbrev s_at_once : Stmt := topS 8
abbrev N_at_once : List Str := ["shelf", "demand", "name", "way", "needed", "barred", "other"]
theorem sc_at_once : FnScope N_at_once ["shelf", "demand"] (defScope s_at_once) := ⟨rfl, rfl, rfl, by decide +kernel, rfl, by decide +kernel, by decide +kernel⟩
abbrev s_causes : Stmt := topS 9
abbrev N_causes : List Str := ["shelf", "demands", "demand", "found", "front", "reached", "other"]
theorem sc_causes : FnScope N_causes ["shelf", "demands"] (defScope s_causes) := ⟨rfl, rfl, rfl, by decide +kernel, rfl, by decide +kernel, by decide +kernel⟩
abbrev s_chain_to : Stmt := topS 10
abbrev N_chain_to : List Str := ["found", "goal", "links", "link"]
theorem sc_chain_to : FnScope N_chain_to ["found", "goal"] (defScope s_chain_to) := ⟨rfl, rfl, rfl, by decide +kernel, rfl, by decide +kernel, by decide +kernel⟩
abbrev s_followed : Stmt := topS 11
abbrev N_followed : List Str := ["shelf", "demands", "found", "name", "way", "needs", "missing", "other"]
theorem sc_followed : FnScope N_followed ["shelf", "demands"] (defScope s_followed) := ⟨rfl, rfl, rfl, by decide +kernel, rfl, by decide +kernel, by decide +kernel⟩
abbrev s_chain : Stmt := topS 12
abbrev N_chain : List Str := ["shelf", "demands", "goal", "found"]
theorem sc_chain : FnScope N_chain ["shelf", "demands", "goal"] (defScope s_chain) := ⟨rfl, rfl, rfl, by decide +kernel, rfl, by decide +kernel, by decide +kernel⟩
abbrev s_Rule_init : Stmt := inClass (topS 14) 0
abbrev N_Rule_init : List Str := ["self", "first", "times", "top", "burst", "span"]
theorem sc_Rule_init : FnScope N_Rule_init ["self", "first", "times", "top", "burst", "span"] (defScope s_Rule_init) := ⟨rfl, rfl, rfl, by decide +kernel, rfl, by decide +kernel, by decide +kernel⟩
abbrev s_Shelf_init : Stmt := inClass (topS 17) 0
abbrev N_Shelf_init : List Str := ["self", "units", "by_name", "unit"]
theorem sc_Shelf_init : FnScope N_Shelf_init ["self", "units"] (defScope s_Shelf_init) := ⟨rfl, rfl, rfl, by decide +kernel, rfl, by decide +kernel, by decide +kernel⟩
abbrev s_Shelf_names : Stmt := inClass (topS 17) 2
abbrev N_Shelf_names : List Str := ["self"]
theorem sc_Shelf_names : FnScope N_Shelf_names ["self"] (defScope s_Shelf_names) := ⟨rfl, rfl, rfl, by decide +kernel, rfl, by decide +kernel, by decide +kernel⟩
abbrev s_Shelf_has : Stmt := inClass (topS 17) 3
abbrev N_Shelf_has : List Str := ["self", "name"]
theorem sc_Shelf_has : FnScope N_Shelf_has ["self", "name"] (defScope s_Shelf_has) := ⟨rfl, rfl, rfl, by decide +kernel, rfl, by decide +kernel, by decide +kernel⟩
abbrev s_Shelf_unit : Stmt := inClass (topS 17) 4
abbrev N_Shelf_unit : List Str := ["self", "name"]
theorem sc_Shelf_unit : FnScope N_Shelf_unit ["self", "name"] (defScope s_Shelf_unit) := ⟨rfl, rfl, rfl, by decide +kernel, rfl, by decide +kernel, by decide +kernel⟩
abbrev s_Shelf_needing : Stmt := inClass (topS 17) 5
abbrev N_Shelf_needing : List Str := ["self", "name", "other"]
theorem sc_Shelf_needing : FnScope N_Shelf_needing ["self", "name"] (defScope s_Shelf_needing) := ⟨rfl, rfl, rfl, by decide +kernel, rfl, by decide +kernel, by decide +kernel⟩
abbrev s_Shelf_barred : Stmt := inClass (topS 17) 6
abbrev N_Shelf_barred : List Str := ["self", "name", "bars", "other"]
theorem sc_Shelf_barred : FnScope N_Shelf_barred ["self", "name"] (defScope s_Shelf_barred) := ⟨rfl, rfl, rfl, by decide +kernel, rfl, by decide +kernel, by decide +kernel⟩
abbrev s_Shelf_waited : Stmt := inClass (topS 17) 7
abbrev N_Shelf_waited : List Str := ["self", "name", "unit", "other"]
theorem sc_Shelf_waited : FnScope N_Shelf_waited ["self", "name"] (defScope s_Shelf_waited) := ⟨rfl, rfl, rfl, by decide +kernel, rfl, by decide +kernel, by decide +kernel⟩
abbrev s_Unit_init : Stmt := inClass (topS 19) 0
abbrev N_Unit_init : List Str := ["self", "name", "kind", "needs", "wants", "bars", "after", "opens", "rule"]
theorem sc_Unit_init : FnScope N_Unit_init ["self", "name", "kind", "needs", "wants", "bars", "after", "opens", "rule"] (defScope s_Unit_init) := ⟨rfl, rfl, rfl, by decide +kernel, rfl, by decide +kernel, by decide +kernel⟩
abbrev s_law_bag : Stmt := topS 21
abbrev N_law_bag : List Str := ["_law_script", "_law_at", "_law_cell", "_law_far"]
theorem sc_law_bag : FnScope N_law_bag ["_law_script", "_law_at"] (defScope s_law_bag) := ⟨rfl, rfl, rfl, by decide +kernel, rfl, by decide +kernel, by decide +kernel⟩
abbrev s_law_take : Stmt := topS 22
abbrev N_law_take : List Str := ["_law_bag_here", "_law_size", "_law_digit", "_law_primes", "_law_stage", "_law_basis", "_law_found"]
theorem sc_law_take : FnScope N_law_take ["_law_bag_here", "_law_size"] (defScope s_law_take) := ⟨rfl, rfl, rfl, by decide +kernel, rfl, by decide +kernel, by decide +kernel⟩
abbrev s_law_name : Stmt := topS 23
abbrev N_law_name : List Str := ["_law_bag_here", "_law_letters", "_law_size", "_law_spot"]
theorem sc_law_name : FnScope N_law_name ["_law_bag_here"] (defScope s_law_name) := ⟨rfl, rfl, rfl, by decide +kernel, rfl, by decide +kernel, by decide +kernel⟩
abbrev s_law_names : Stmt := topS 24
abbrev N_law_names : List Str := ["_law_bag_here", "_law_size", "_law_found", "_law_spot", "_law_word", "_law_one"]
theorem sc_law_names : FnScope N_law_names ["_law_bag_here", "_law_size"] (defScope s_law_names) := ⟨rfl, rfl, rfl, by decide +kernel, rfl, by decide +kernel, by decide +kernel⟩
abbrev s_law_rule_parts : Stmt := topS 25
abbrev N_law_rule_parts : List Str := ["_law_bag_here", "_law_some_here"]
theorem sc_law_rule_parts : FnScope N_law_rule_parts ["_law_bag_here"] (defScope s_law_rule_parts) := ⟨rfl, rfl, rfl, by decide +kernel, rfl, by decide +kernel, by decide +kernel⟩
abbrev s_law_rule : Stmt := topS 26
abbrev N_law_rule : List Str := ["_law_five"]
theorem sc_law_rule : FnScope N_law_rule ["_law_five"] (defScope s_law_rule) := ⟨rfl, rfl, rfl, by decide +kernel, rfl, by decide +kernel, by decide +kernel⟩
abbrev s_law_some : Stmt := topS 27
abbrev N_law_some : List Str := ["_law_bag_here", "_law_pool", "_law_most", "_law_left", "_law_found", "_law_turn"]
theorem sc_law_some : FnScope N_law_some ["_law_bag_here", "_law_pool", "_law_most"] (defScope s_law_some) := ⟨rfl, rfl, rfl, by decide +kernel, rfl, by decide +kernel, by decide +kernel⟩
abbrev s_law_facts : Stmt := topS 28
abbrev N_law_facts : List Str := ["_law_bag_here", "_law_most", "_law_named", "_law_strange", "_law_loose", "_law_found", "_law_word", "_law_pool", "_law_wide", "_law_musts", "_law_likes", "_law_foes", "_law_elders", "_law_sort", "_law_goal", "_law_five", "_law_one"]
theorem sc_law_facts : FnScope N_law_facts ["_law_bag_here", "_law_most"] (defScope s_law_facts) := ⟨rfl, rfl, rfl, by decide +kernel, rfl, by decide +kernel, by decide +kernel⟩
abbrev s_law_unit : Stmt := topS 29
abbrev N_law_unit : List Str := ["_law_word", "_law_facts_here", "_law_sort", "_law_musts", "_law_likes", "_law_foes", "_law_elders", "_law_goal", "_law_five", "_law_way_on"]
theorem sc_law_unit : FnScope N_law_unit ["_law_word", "_law_facts_here"] (defScope s_law_unit) := ⟨rfl, rfl, rfl, by decide +kernel, rfl, by decide +kernel, by decide +kernel⟩
abbrev s_law_units : Stmt := topS 30
abbrev N_law_units : List Str := ["_law_facts_here", "_law_word"]
theorem sc_law_units : FnScope N_law_units ["_law_facts_here"] (defScope s_law_units) := ⟨rfl, rfl, rfl, by decide +kernel, rfl, by decide +kernel, by decide +kernel⟩
abbrev s_law_needing : Stmt := topS 31
abbrev N_law_needing : List Str := ["_law_facts_here", "_law_word", "_law_one"]
theorem sc_law_needing : FnScope N_law_needing ["_law_facts_here", "_law_word"] (defScope s_law_needing) := ⟨rfl, rfl, rfl, by decide +kernel, rfl, by decide +kernel, by decide +kernel⟩
abbrev s_law_barred : Stmt := topS 32
abbrev N_law_barred : List Str := ["_law_facts_here", "_law_word", "_law_one"]
theorem sc_law_barred : FnScope N_law_barred ["_law_facts_here", "_law_word"] (defScope s_law_barred) := ⟨rfl, rfl, rfl, by decide +kernel, rfl, by decide +kernel, by decide +kernel⟩
abbrev s_law_next : Stmt := topS 33
abbrev N_law_next : List Str := ["_law_facts_here", "_law_demand", "_law_word", "_law_way", "_law_found", "_law_one"]
theorem sc_law_next : FnScope N_law_next ["_law_facts_here", "_law_demand"] (defScope s_law_next) := ⟨rfl, rfl, rfl, by decide +kernel, rfl, by decide +kernel, by decide +kernel⟩
abbrev s_law_without_lacks : Stmt := topS 34
abbrev N_law_without_lacks : List Str := ["_law_facts_here", "_law_found", "_law_word", "_law_parts", "_law_one"]
theorem sc_law_without_lacks : FnScope N_law_without_lacks ["_law_facts_here"] (defScope s_law_without_lacks) := ⟨rfl, rfl, rfl, by decide +kernel, rfl, by decide +kernel, by decide +kernel⟩
abbrev s_law_demands : Stmt := topS 35
abbrev N_law_demands : List Str := ["_law_bag_here", "_law_words", "_law_found", "_law_turn"]
theorem sc_law_demands : FnScope N_law_demands ["_law_bag_here", "_law_words"] (defScope s_law_demands) := ⟨rfl, rfl, rfl, by decide +kernel, rfl, by decide +kernel, by decide +kernel⟩
abbrev s_law_closed : Stmt := topS 36
abbrev N_law_closed : List Str := ["_law_made", "_law_some_here", "_law_told", "_law_demand", "_law_one"]
theorem sc_law_closed : FnScope N_law_closed ["_law_made", "_law_some_here", "_law_told"] (defScope s_law_closed) := ⟨rfl, rfl, rfl, by decide +kernel, rfl, by decide +kernel, by decide +kernel⟩
abbrev s_law_reached : Stmt := topS 37
abbrev N_law_reached : List Str := ["_law_made", "_law_some_here", "_law_told", "_law_words", "_law_word", "_law_way", "_law_links", "_law_one"]
theorem sc_law_reached : FnScope N_law_reached ["_law_made", "_law_some_here", "_law_told", "_law_words"] (defScope s_law_reached) := ⟨rfl, rfl, rfl, by decide +kernel, rfl, by decide +kernel, by decide +kernel⟩
abbrev s_law : Stmt := topS 38
abbrev N_law : List Str := ["_law_script", "_law_k", "_law_bag_here", "_law_facts_here", "_law_made", "_law_words", "_law_both", "_law_some_here", "_law_told", "_law_found", "_law_together"]
theorem sc_law : FnScope N_law ["_law_script"] (defScope s_law) := ⟨rfl, rfl, rfl, by decide +kernel, rfl, by decide +kernel, by decide +kernel⟩
structure Txt (K : PySem.W.Frag) (mg : Str → Option Value) where
  d_at_once : FuncData
  F_at_once : FunD K "at_once" "at_once" (defArgs s_at_once) (defBody s_at_once) (defScope s_at_once) [] [] (He.fAd K ("at_once", none)) d_at_once
  m_at_once : mg "at_once" = some (.ref (He.ga K "at_once"))
  b_at_once : Binds K d_at_once ["shelf", "demand"] []
  d_causes : FuncData
  F_causes : FunD K "causes" "causes" (defArgs s_causes) (defBody s_causes) (defScope s_causes) [] [] (He.fAd K ("causes", none)) d_causes
  m_causes : mg "causes" = some (.ref (He.ga K "causes"))
  b_causes : Binds K d_causes ["shelf", "demands"] []
  d_chain_to : FuncData
  F_chain_to : FunD K "chain_to" "chain_to" (defArgs s_chain_to) (defBody s_chain_to) (defScope s_chain_to) [] [] (He.fAd K ("chain_to", none)) d_chain_to
  m_chain_to : mg "chain_to" = some (.ref (He.ga K "chain_to"))
  b_chain_to : Binds K d_chain_to ["found", "goal"] []
  d_followed : FuncData
  F_followed : FunD K "followed" "followed" (defArgs s_followed) (defBody s_followed) (defScope s_followed) [] [] (He.fAd K ("followed", none)) d_followed
  m_followed : mg "followed" = some (.ref (He.ga K "followed"))
  b_followed : Binds K d_followed ["shelf", "demands"] []
  d_chain : FuncData
  F_chain : FunD K "chain" "chain" (defArgs s_chain) (defBody s_chain) (defScope s_chain) [] [] (He.fAd K ("chain", none)) d_chain
  m_chain : mg "chain" = some (.ref (He.ga K "chain"))
  b_chain : Binds K d_chain ["shelf", "demands", "goal"] []
  d_Rule_init : FuncData
  F_Rule_init : FunD K "__init__" "Rule.__init__" (defArgs s_Rule_init) (defBody s_Rule_init) (defScope s_Rule_init) [] [("first", V.int 1), ("times", V.int 2), ("top", V.int 64), ("burst", V.int 5), ("span", V.int 100)] (He.fAd K ("Rule", some "__init__")) d_Rule_init
  d_Shelf_init : FuncData
  F_Shelf_init : FunD K "__init__" "Shelf.__init__" (defArgs s_Shelf_init) (defBody s_Shelf_init) (defScope s_Shelf_init) [V.ref (He.dflAt ("Shelf", some "__init__") 0 K)] [] (He.fAd K ("Shelf", some "__init__")) d_Shelf_init
  b2_Shelf_init : Binds K d_Shelf_init ["self", "units"] []
  b1_Shelf_init : ∃ ds, Vals [V.ref (He.dflAt ("Shelf", some "__init__") 0 K)] ds ∧ Binds K d_Shelf_init ["self", "units"] ds
  e1_Shelf_init : ∀ H, SqT K H (He.dflAt ("Shelf", some "__init__") 0 K) []
  d_Shelf_names : FuncData
  F_Shelf_names : FunD K "names" "Shelf.names" (defArgs s_Shelf_names) (defBody s_Shelf_names) (defScope s_Shelf_names) [] [] (He.fAd K ("Shelf", some "names")) d_Shelf_names
  b_Shelf_names : Binds K d_Shelf_names ["self"] []
  me_Shelf_names : Meth K (He.ga K "Shelf") "names" (He.fAd K ("Shelf", some "names"))
  d_Shelf_has : FuncData
  F_Shelf_has : FunD K "has" "Shelf.has" (defArgs s_Shelf_has) (defBody s_Shelf_has) (defScope s_Shelf_has) [] [] (He.fAd K ("Shelf", some "has")) d_Shelf_has
  b_Shelf_has : Binds K d_Shelf_has ["self", "name"] []
  me_Shelf_has : Meth K (He.ga K "Shelf") "has" (He.fAd K ("Shelf", some "has"))
  d_Shelf_unit : FuncData
  F_Shelf_unit : FunD K "unit" "Shelf.unit" (defArgs s_Shelf_unit) (defBody s_Shelf_unit) (defScope s_Shelf_unit) [] [] (He.fAd K ("Shelf", some "unit")) d_Shelf_unit
  b_Shelf_unit : Binds K d_Shelf_unit ["self", "name"] []
  me_Shelf_unit : Meth K (He.ga K "Shelf") "unit" (He.fAd K ("Shelf", some "unit"))
  d_Shelf_needing : FuncData
  F_Shelf_needing : FunD K "needing" "Shelf.needing" (defArgs s_Shelf_needing) (defBody s_Shelf_needing) (defScope s_Shelf_needing) [] [] (He.fAd K ("Shelf", some "needing")) d_Shelf_needing
  b_Shelf_needing : Binds K d_Shelf_needing ["self", "name"] []
  me_Shelf_needing : Meth K (He.ga K "Shelf") "needing" (He.fAd K ("Shelf", some "needing"))
  d_Shelf_barred : FuncData
  F_Shelf_barred : FunD K "barred" "Shelf.barred" (defArgs s_Shelf_barred) (defBody s_Shelf_barred) (defScope s_Shelf_barred) [] [] (He.fAd K ("Shelf", some "barred")) d_Shelf_barred
  b_Shelf_barred : Binds K d_Shelf_barred ["self", "name"] []
  me_Shelf_barred : Meth K (He.ga K "Shelf") "barred" (He.fAd K ("Shelf", some "barred"))
  d_Shelf_waited : FuncData
  F_Shelf_waited : FunD K "waited" "Shelf.waited" (defArgs s_Shelf_waited) (defBody s_Shelf_waited) (defScope s_Shelf_waited) [] [] (He.fAd K ("Shelf", some "waited")) d_Shelf_waited
  b_Shelf_waited : Binds K d_Shelf_waited ["self", "name"] []
  me_Shelf_waited : Meth K (He.ga K "Shelf") "waited" (He.fAd K ("Shelf", some "waited"))
  d_Unit_init : FuncData
  F_Unit_init : FunD K "__init__" "Unit.__init__" (defArgs s_Unit_init) (defBody s_Unit_init) (defScope s_Unit_init) [] [("kind", V.str "work"), ("needs", V.ref (UO.kwAdr K ("Unit", some "__init__") "needs")), ("wants", V.ref (UO.kwAdr K ("Unit", some "__init__") "wants")), ("bars", V.ref (UO.kwAdr K ("Unit", some "__init__") "bars")), ("after", V.ref (UO.kwAdr K ("Unit", some "__init__") "after")), ("opens", V.non), ("rule", V.non)] (He.fAd K ("Unit", some "__init__")) d_Unit_init
  d_law_bag : FuncData
  F_law_bag : FunD K "_law_bag" "_law_bag" (defArgs s_law_bag) (defBody s_law_bag) (defScope s_law_bag) [] [] (He.fAd K ("_law_bag", none)) d_law_bag
  m_law_bag : mg "_law_bag" = some (.ref (He.ga K "_law_bag"))
  b_law_bag : Binds K d_law_bag ["_law_script", "_law_at"] []
  d_law_take : FuncData
  F_law_take : FunD K "_law_take" "_law_take" (defArgs s_law_take) (defBody s_law_take) (defScope s_law_take) [] [] (He.fAd K ("_law_take", none)) d_law_take
  m_law_take : mg "_law_take" = some (.ref (He.ga K "_law_take"))
  b_law_take : Binds K d_law_take ["_law_bag_here", "_law_size"] []
  d_law_name : FuncData
  F_law_name : FunD K "_law_name" "_law_name" (defArgs s_law_name) (defBody s_law_name) (defScope s_law_name) [] [] (He.fAd K ("_law_name", none)) d_law_name
  m_law_name : mg "_law_name" = some (.ref (He.ga K "_law_name"))
  b_law_name : Binds K d_law_name ["_law_bag_here"] []
  d_law_names : FuncData
  F_law_names : FunD K "_law_names" "_law_names" (defArgs s_law_names) (defBody s_law_names) (defScope s_law_names) [] [] (He.fAd K ("_law_names", none)) d_law_names
  m_law_names : mg "_law_names" = some (.ref (He.ga K "_law_names"))
  b_law_names : Binds K d_law_names ["_law_bag_here", "_law_size"] []
  d_law_rule_parts : FuncData
  F_law_rule_parts : FunD K "_law_rule_parts" "_law_rule_parts" (defArgs s_law_rule_parts) (defBody s_law_rule_parts) (defScope s_law_rule_parts) [] [] (He.fAd K ("_law_rule_parts", none)) d_law_rule_parts
  m_law_rule_parts : mg "_law_rule_parts" = some (.ref (He.ga K "_law_rule_parts"))
  b_law_rule_parts : Binds K d_law_rule_parts ["_law_bag_here"] []
  d_law_rule : FuncData
  F_law_rule : FunD K "_law_rule" "_law_rule" (defArgs s_law_rule) (defBody s_law_rule) (defScope s_law_rule) [] [] (He.fAd K ("_law_rule", none)) d_law_rule
  m_law_rule : mg "_law_rule" = some (.ref (He.ga K "_law_rule"))
  b_law_rule : Binds K d_law_rule ["_law_five"] []
  d_law_some : FuncData
  F_law_some : FunD K "_law_some" "_law_some" (defArgs s_law_some) (defBody s_law_some) (defScope s_law_some) [] [] (He.fAd K ("_law_some", none)) d_law_some
  m_law_some : mg "_law_some" = some (.ref (He.ga K "_law_some"))
  b_law_some : Binds K d_law_some ["_law_bag_here", "_law_pool", "_law_most"] []
  d_law_facts : FuncData
  F_law_facts : FunD K "_law_facts" "_law_facts" (defArgs s_law_facts) (defBody s_law_facts) (defScope s_law_facts) [] [] (He.fAd K ("_law_facts", none)) d_law_facts
  m_law_facts : mg "_law_facts" = some (.ref (He.ga K "_law_facts"))
  b_law_facts : Binds K d_law_facts ["_law_bag_here", "_law_most"] []
  d_law_unit : FuncData
  F_law_unit : FunD K "_law_unit" "_law_unit" (defArgs s_law_unit) (defBody s_law_unit) (defScope s_law_unit) [] [] (He.fAd K ("_law_unit", none)) d_law_unit
  m_law_unit : mg "_law_unit" = some (.ref (He.ga K "_law_unit"))
  b_law_unit : Binds K d_law_unit ["_law_word", "_law_facts_here"] []
  d_law_units : FuncData
  F_law_units : FunD K "_law_units" "_law_units" (defArgs s_law_units) (defBody s_law_units) (defScope s_law_units) [] [] (He.fAd K ("_law_units", none)) d_law_units
  m_law_units : mg "_law_units" = some (.ref (He.ga K "_law_units"))
  b_law_units : Binds K d_law_units ["_law_facts_here"] []
  d_law_needing : FuncData
  F_law_needing : FunD K "_law_needing" "_law_needing" (defArgs s_law_needing) (defBody s_law_needing) (defScope s_law_needing) [] [] (He.fAd K ("_law_needing", none)) d_law_needing
  m_law_needing : mg "_law_needing" = some (.ref (He.ga K "_law_needing"))
  b_law_needing : Binds K d_law_needing ["_law_facts_here", "_law_word"] []
  d_law_barred : FuncData
  F_law_barred : FunD K "_law_barred" "_law_barred" (defArgs s_law_barred) (defBody s_law_barred) (defScope s_law_barred) [] [] (He.fAd K ("_law_barred", none)) d_law_barred
  m_law_barred : mg "_law_barred" = some (.ref (He.ga K "_law_barred"))
  b_law_barred : Binds K d_law_barred ["_law_facts_here", "_law_word"] []
  d_law_next : FuncData
  F_law_next : FunD K "_law_next" "_law_next" (defArgs s_law_next) (defBody s_law_next) (defScope s_law_next) [] [] (He.fAd K ("_law_next", none)) d_law_next
  m_law_next : mg "_law_next" = some (.ref (He.ga K "_law_next"))
  b_law_next : Binds K d_law_next ["_law_facts_here", "_law_demand"] []
  d_law_without_lacks : FuncData
  F_law_without_lacks : FunD K "_law_without_lacks" "_law_without_lacks" (defArgs s_law_without_lacks) (defBody s_law_without_lacks) (defScope s_law_without_lacks) [] [] (He.fAd K ("_law_without_lacks", none)) d_law_without_lacks
  m_law_without_lacks : mg "_law_without_lacks" = some (.ref (He.ga K "_law_without_lacks"))
  b_law_without_lacks : Binds K d_law_without_lacks ["_law_facts_here"] []
  d_law_demands : FuncData
  F_law_demands : FunD K "_law_demands" "_law_demands" (defArgs s_law_demands) (defBody s_law_demands) (defScope s_law_demands) [] [] (He.fAd K ("_law_demands", none)) d_law_demands
  m_law_demands : mg "_law_demands" = some (.ref (He.ga K "_law_demands"))
  b_law_demands : Binds K d_law_demands ["_law_bag_here", "_law_words"] []
  d_law_closed : FuncData
  F_law_closed : FunD K "_law_closed" "_law_closed" (defArgs s_law_closed) (defBody s_law_closed) (defScope s_law_closed) [] [] (He.fAd K ("_law_closed", none)) d_law_closed
  m_law_closed : mg "_law_closed" = some (.ref (He.ga K "_law_closed"))
  b_law_closed : Binds K d_law_closed ["_law_made", "_law_some_here", "_law_told"] []
  d_law_reached : FuncData
  F_law_reached : FunD K "_law_reached" "_law_reached" (defArgs s_law_reached) (defBody s_law_reached) (defScope s_law_reached) [] [] (He.fAd K ("_law_reached", none)) d_law_reached
  m_law_reached : mg "_law_reached" = some (.ref (He.ga K "_law_reached"))
  b_law_reached : Binds K d_law_reached ["_law_made", "_law_some_here", "_law_told", "_law_words"] []
  d_law : FuncData
  F_law : FunD K "law" "law" (defArgs s_law) (defBody s_law) (defScope s_law) [] [] (He.fAd K ("law", none)) d_law
  m_law : mg "law" = some (.ref (He.ga K "law"))
  b_law : Binds K d_law ["_law_script"] []
  m_Rule : mg "Rule" = some (.ref (He.ga K "Rule"))
  cl_Rule : Cls K (He.ga K "Rule")
  mk_Rule : Mk K (He.ga K "Rule") (He.fAd K ("Rule", some "__init__"))
  na_Rule_first : NoAttr K (He.ga K "Rule") "first"
  na_Rule_times : NoAttr K (He.ga K "Rule") "times"
  na_Rule_top : NoAttr K (He.ga K "Rule") "top"
  na_Rule_burst : NoAttr K (He.ga K "Rule") "burst"
  na_Rule_span : NoAttr K (He.ga K "Rule") "span"
  m_Shelf : mg "Shelf" = some (.ref (He.ga K "Shelf"))
  cl_Shelf : Cls K (He.ga K "Shelf")
  mk_Shelf : Mk K (He.ga K "Shelf") (He.fAd K ("Shelf", some "__init__"))
  na_Shelf_by_name : NoAttr K (He.ga K "Shelf") "by_name"
  m_Unit : mg "Unit" = some (.ref (He.ga K "Unit"))
  cl_Unit : Cls K (He.ga K "Unit")
  mk_Unit : Mk K (He.ga K "Unit") (He.fAd K ("Unit", some "__init__"))
  na_Unit_name : NoAttr K (He.ga K "Unit") "name"
  na_Unit_kind : NoAttr K (He.ga K "Unit") "kind"
  na_Unit_needs : NoAttr K (He.ga K "Unit") "needs"
  na_Unit_wants : NoAttr K (He.ga K "Unit") "wants"
  na_Unit_bars : NoAttr K (He.ga K "Unit") "bars"
  na_Unit_after : NoAttr K (He.ga K "Unit") "after"
  na_Unit_opens : NoAttr K (He.ga K "Unit") "opens"
  na_Unit_rule : NoAttr K (He.ga K "Unit") "rule"
  e0_Unit_init_needs : ∀ H, SqT K H (UO.kwAdr K ("Unit", some "__init__") "needs") []
  e0_Unit_init_wants : ∀ H, SqT K H (UO.kwAdr K ("Unit", some "__init__") "wants") []
  e0_Unit_init_bars : ∀ H, SqT K H (UO.kwAdr K ("Unit", some "__init__") "bars") []
  e0_Unit_init_after : ∀ H, SqT K H (UO.kwAdr K ("Unit", some "__init__") "after") []
  ix_Unit : UO.InsX K (He.ga K "Unit")
  ix_Rule : UO.InsX K (He.ga K "Rule")
  px_Unit_Rule : UO.PairX K (He.ga K "Unit") (He.ga K "Rule")
  px_Rule_Unit : UO.PairX K (He.ga K "Rule") (He.ga K "Unit")
  c_MOST : ∃ t, mg "MOST" = some (.int 16 t)
  n_sorted : mg "sorted" = none
  n_list : mg "list" = none
  n_len : mg "len" = none
  n_isinstance : mg "isinstance" = none
  n_str : mg "str" = none
  n_abs : mg "abs" = none
  n_int : mg "int" = none
  n_range : mg "range" = none
  n_tuple : mg "tuple" = none
  n_all : mg "all" = none
  n_max : mg "max" = none
  n_zip : mg "zip" = none
  n_min : mg "min" = none
  n_set : mg "set" = none
  kb_Rule_init_1_first_times_top_burst_span : ∃ gg, KBn K d_Rule_init ["self", "first", "times", "top", "burst", "span"] 1 ["first", "times", "top", "burst", "span"] gg (fun us ws => us ++ (ws.drop 0).take 1 ++ (ws.drop 1).take 1 ++ (ws.drop 2).take 1 ++ (ws.drop 3).take 1 ++ (ws.drop 4).take 1)
  kb_Unit_init_2_kind_needs_wants_bars_after_opens_rule : ∃ gg, KBn K d_Unit_init ["self", "name", "kind", "needs", "wants", "bars", "after", "opens", "rule"] 2 ["kind", "needs", "wants", "bars", "after", "opens", "rule"] gg (fun us ws => us ++ (ws.drop 0).take 1 ++ (ws.drop 1).take 1 ++ (ws.drop 2).take 1 ++ (ws.drop 3).take 1 ++ (ws.drop 4).take 1 ++ (ws.drop 5).take 1 ++ (ws.drop 6).take 1)
section
variable {P : Program} {w : World} {K : PySem.W.Frag} {mg : Str → Option Value} {base : Heap}
/-! ### the bag and a draw -/
def sp_law_bag (K : PySem.W.Frag) : Sp := fun vs H Q _ => ∃ (a : Addr) (ns : List Int) (k : Nat), vs = [.ref a, .int k] ∧ SqL K H a (ns.map V.int) ∧ k ≤ 1000 ∧
  ∀ p H', H p = none → Same H H' → Bag 0 H' p → Q (.ref p) H'
theorem ok_law_bag (T : Txt K mg) : FnOk P w K mg base CX0 1 (He.fAd K ("_law_bag", none)) T.d_law_bag ["_law_script", "_law_at"] (sp_law_bag K) := by
  refine T.F_law_bag.ok sc_law_bag (fun vs H Q E h => ?_) (fun cdv A outer s H vs Q E hr h => ?_)
  · obtain ⟨a, ns, k, rfl, _⟩ := h
    rfl
  · obtain ⟨a, ns, k, rfl, hS, hk, q⟩ := h
    refine ⟨_, PSs.nox (pss_cons (ps_set (i := 2) sc_law_bag.nd rfl (Or.inl rfl) (pe_op op_add (pe_op op_add (pe_op op_mul (pe_op op_mul pe_int (pv 1)) (pv 1)) (pe_op op_mul pe_int (pv 1))) pe_int))
      (pss_mid (ps_if (pt_cmpR op_lt (pv 1) (pe_callB (id := "len")  call_len_seq (by rfl) T.n_len (by decide +kernel) (pa_cons (pv 0) pa_nil)) (nomark _))
      (pss_one (ps_set (i := 2) sc_law_bag.nd rfl (Or.inl rfl) (pe_ix ix_list (pv 0) (pv 1) (fun _ _ => rfl))))
      pss_nil)
      (pss_cons (ps_set (i := 3) sc_law_bag.nd rfl (Or.inl rfl) (pe_callB (id := "abs")  call_abs (by rfl) T.n_abs (by decide +kernel) (pa_cons (pv 2) pa_nil)))
      (pss_one (ps_ret (pe_lst (pa_cons (pe_op op_mul (pv 3) (pe_callTy (T := "int")  call_int1 (by rfl) T.n_int (by decide +kernel) (pa_cons (pe_cmpR op_ge (pv 3) (pe_op op_powL pe_int pe_int) (nomark _)) pa_nil))) (pa_cons (pe_op op_add (pe_op op_mod (pv 2) (pe_op op_add (pe_op op_powL pe_int pe_int) pe_int)) (pe_op op_mul pe_int (pv 1))) (pa_cons pe_int pa_nil))))))))), ?_⟩
    have hk2 : (k : Int) ≤ 1000 := by omega
    have hk0 : (0 : Int) ≤ k := Int.natCast_nonneg _
    -- cell = 7919 * at * at + 104729 * at + 11
    refine ⟨_, rfl, _, _, rfl, rfl, .inl ⟨by decide, by decide⟩, _, rfl, _, _, rfl, rfl, .inr ⟨by omega, by omega⟩, _, rfl, _, _, rfl, rfl, .inl ⟨by decide, by decide⟩, _, _, rfl, rfl, _, _, rfl, rfl, ?_⟩
    -- if at < len(script)
    refine ⟨fun σ H' => H' = H ∧ ∃ c : Int, σ = [some (.ref a), some (.int k), some (.int c), none], ?_, ?_⟩
    · refine ⟨_, rfl, _, rfl, a, _, rfl, .inl hS, _, _, rfl, rfl, _, rfl, ?_⟩
      refine ite2 (fun hc => ?_) (fun hc => ?_)
      · have hlt : k < ns.length := by
          have := of_decide_eq_true hc
          rw [List.length_map] at this
          omega
        exact ⟨_, rfl, _, rfl, a, _, _, .int ns[k], rfl, rfl, hS, atI_nat (by rw [List.getElem?_map, List.getElem?_eq_getElem hlt]; rfl), rfl, _, rfl⟩
      · exact ⟨rfl, _, rfl⟩
    · rintro σ H' ⟨rfl, c, rfl⟩
      -- far = abs(cell); return [far * int(far >= 10 ** 18), cell % (10 ** 18 + 9) + 1299709 * at, 0]
      refine ⟨_, rfl, _, rfl, ?_⟩
      refine ⟨_, rfl, _, rfl, _, _, rfl, rfl, pow10, _, _, rfl, rfl, .inr ⟨_, rfl, _, _, rfl, rfl, cmul_b, ?_⟩⟩
      refine ⟨_, rfl, _, _, rfl, rfl, pow10, _, _, rfl, rfl, _, _, rfl, rfl, (by show (0 : Int) < 10 ^ (18 : Int).toNat + 9; decide), _, rfl, _, _, rfl, rfl, .inl ⟨by decide, by decide⟩, _, _, rfl, rfl, (by show 3 ≤ sizeLine; decide), fun p hp => ?_⟩
      exact q p _ hp (same_upd hp) (bag_made hk0 hk2)
abbrev sp_law_take (K : PySem.W.Frag) : Sp := spTake
theorem ok_law_take (T : Txt K mg) : FnOk P w K mg base CX0 1 (He.fAd K ("_law_take", none)) T.d_law_take ["_law_bag_here", "_law_size"] (sp_law_take K) := by
  refine T.F_law_take.ok sc_law_take (fun vs H Q E h => ?_) (fun cdv A outer s H vs Q E hr h => ?_)
  · obtain ⟨p, z, n, rfl, _⟩ := take_un h
    rfl
  · obtain ⟨p, z, n, rfl, hB, hz0, hz1, hn, q⟩ := take_un h
    refine ⟨_, PSs.nox (pss_cons (ps_if (pt_cmpR op_gt (pe_ix ix_list (pv 0) pe_int (fun _ _ => rfl)) pe_int (nomark _))
      (pss_cons (ps_set (i := 2) sc_law_take.nd rfl (Or.inl rfl) (pe_op op_mod (pe_ix ix_list (pv 0) pe_int (fun _ _ => rfl)) (pv 1)))
      (pss_cons (ps_asg (pe_op op_fdiv (pe_ix ix_list (pv 0) pe_int (fun _ _ => rfl)) (pv 1)) (pg_sub (pv 0) pe_int set_list))
      (pss_one (ps_ret (pv 2)))))
      pss_nil)
      (pss_cons (ps_set (i := 3) sc_law_take.nd rfl (Or.inl rfl) (pe_tup (pa_cons pe_int (pa_cons pe_int (pa_cons pe_int (pa_cons pe_int (pa_cons pe_int (pa_cons pe_int (pa_cons pe_int (pa_cons pe_int pa_nil))))))))))
      (pss_cons (ps_asg (pe_op op_add (pe_ix ix_list (pv 0) pe_int (fun _ _ => rfl)) pe_int) (pg_sub (pv 0) pe_int set_list))
      (pss_cons (ps_set (i := 4) sc_law_take.nd rfl (Or.inl rfl) (pe_ix ix_list (pv 0) pe_int (fun _ _ => rfl)))
      (pss_cons (ps_set (i := 5) sc_law_take.nd rfl (Or.inl rfl) (pe_op op_add (pe_op op_add (pe_op op_mul (pe_ix ix_list (pv 0) pe_int (fun _ _ => rfl)) (pe_op op_add (pe_op op_mul pe_int (pv 4)) pe_int)) (pe_op op_mul (pe_op op_mul pe_int (pv 4)) (pv 4))) pe_int))
      (pss_cons (ps_set (i := 6) sc_law_take.nd rfl (Or.inl rfl) (pe_op op_mod (pe_op op_powL (pv 5) pe_int) (pe_ix ix_tup (pv 3) (pe_op op_mod (pv 4) pe_int) (fun _ _ => rfl))))
      (pss_one (ps_ret (pe_op op_mod (pe_op op_fdiv (pe_op op_mod (pe_op op_mul (pv 6) (pe_op op_add (pe_op op_fdiv (pv 6) pe_int) pe_int)) (pe_ix ix_tup (pv 3) (pe_op op_mod (pe_op op_add (pv 4) pe_int) pe_int) (fun _ _ => rfl))) pe_int) (pv 1)))))))))), ?_⟩
    obtain ⟨a, b, c, hp, ha, hb, hb1, hc, hc1⟩ := hB.ex
    -- if bag[0] > 0
    refine ⟨_, rfl, p, _, _, _, rfl, rfl, SqL.of hp, at0, _, _, rfl, rfl, _, rfl, ?_⟩
    refine ite2 (fun _ => ?_) (fun _ => ?_)
    · -- digit = bag[0] % size
      refine ⟨_, rfl, p, _, _, _, rfl, rfl, SqL.of hp, at0, _, rfl, _, _, rfl, rfl, hz0, ?_⟩
      -- bag[0] = bag[0] // size
      refine ⟨_, rfl, p, _, _, _, rfl, rfl, SqL.of hp, at0, _, rfl, _, _, rfl, rfl, ⟨hz0, hz1⟩, _, rfl, p, _, _, 0, rfl, rfl, hp, rfl, ?_⟩
      refine ⟨_, rfl, ?_⟩
      refine q (a % z) _ (Int.emod_nonneg _ (by omega)) (Int.emod_lt_of_pos _ hz0) ⟨_, _, _, upd_same, Int.ediv_nonneg ha (by omega), hb, hb1, hc, by omega⟩ (mut_keep rfl)
    · -- primes
      refine ⟨by show 8 ≤ sizeLine; decide, fun t ht => ?_⟩
      generalize hE : upd H t _ = H1
      have k1 := new_at hE
      have s1 := new_same hE ht
      have hp1 := s1 _ _ hp
      have npt : p ≠ t := ne_some hp ht
      -- bag[2] = bag[2] + 1
      refine ⟨_, rfl, p, _, _, _, rfl, rfl, SqL.of hp1, at2, _, _, rfl, rfl, _, rfl, p, _, _, 2, rfl, rfl, hp1, rfl, ?_⟩
      generalize hE2 : upd H1 p _ = H2
      have hp2 : H2 p = some (.lst [.int a, .int b, .int (c + 1)]) := new_at hE2
      have kp2 := mut_keep hE2
      have k2 := kp2 _ _ k1 npt.symm
      have bag2 : Bag (n + 1) H2 p := ⟨_, _, _, hp2, ha, hb, hb1, by omega, by omega⟩
      have kpA : Kp p H H2 := (Kp.of s1).trans kp2
      -- stage, basis
      refine ⟨_, rfl, p, _, _, _, rfl, rfl, SqL.of hp2, at2, ?_⟩
      refine ⟨_, rfl, p, _, _, _, rfl, rfl, SqL.of hp2, at1, _, rfl, _, _, rfl, rfl, .inl ⟨by decide, by decide⟩, _, _, rfl, rfl, _, _, rfl, rfl, .inl ⟨by omega, by omega⟩, _, rfl, _, _, rfl, rfl, .inl ⟨by decide, by decide⟩, _, rfl, _, _, rfl, rfl, .inr ⟨by omega, by omega⟩, _, _, rfl, rfl, _, _, rfl, rfl, ?_⟩
      -- found = basis ** 3 % primes[stage % 8]
      obtain ⟨p1, e1, g1, l1⟩ := prime_at (c + 1)
      refine ⟨_, rfl, _, _, rfl, rfl, ⟨by decide, by decide, basis_small hb hb1 (by omega) (by omega)⟩, _, rfl, _, rfl, _, _, rfl, rfl, (by show (0 : Int) < 8; decide), t, _, _, _, rfl, rfl, SqT.of k2, e1, _, _, rfl, rfl, g1, ?_⟩
      generalize hf : (b * (2 * (c + 1) + 1) + 7919 * (c + 1) * (c + 1) + 29) ^ (3 : Int).toNat % p1 = f
      have f0 : 0 ≤ f := by rw [← hf]; exact Int.emod_nonneg _ (by have : 0 < p1 := g1; omega)
      have f1 : f < 2147483648 := by
        have h1 := Int.emod_lt_of_pos ((b * (2 * (c + 1) + 1) + 7919 * (c + 1) * (c + 1) + 29) ^ (3 : Int).toNat) (show 0 < p1 from g1)
        rw [hf] at h1
        omega
      obtain ⟨p2, e2, g2, l2⟩ := prime_at (c + 1 + 5)
      refine ⟨_, rfl, _, rfl, _, _, rfl, rfl, ⟨by decide, by decide⟩, _, _, rfl, rfl, _, _, rfl, rfl, .inl ⟨by omega, by omega⟩, _, rfl, _, rfl, _, _, rfl, rfl, _, _, rfl, rfl, (by show (0 : Int) < 8; decide), t, _, _, _, rfl, rfl, SqT.of k2, e2, _, _, rfl, rfl, g2, _, _, rfl, rfl, ⟨by decide, by decide⟩, _, rfl, _, _, rfl, rfl, hz0, ?_⟩
      exact q _ _ (Int.emod_nonneg _ (by omega)) (Int.emod_lt_of_pos _ hz0) bag2 kpA

-- SPLIT
/-! ### names drawn -/
def sp_law_name (K : PySem.W.Frag) : Sp := fun vs H Q _ => ∃ (p : Addr) (n : Nat), vs = [.ref p] ∧ Bag n H p ∧ n < 800000000 ∧
  ∀ (x : Str) H', Nm x → Bag (n + 10) H' p → Kp p H H' → Q (.str x) H'
theorem ok_law_name (T : Txt K mg) : FnOk P w K mg base CX0 2 (He.fAd K ("_law_name", none)) T.d_law_name ["_law_bag_here"] (sp_law_name K) := by
  refine T.F_law_name.ok sc_law_name (fun vs H Q E h => ?_) (fun cdv A outer s H vs Q E hr h => ?_)
  · obtain ⟨p, n, rfl, _⟩ := h
    rfl
  · obtain ⟨p, n, rfl, B, hn, q⟩ := h
    refine ⟨_, PSs.nox (pss_cons (ps_set (i := 1) sc_law_name.nd rfl (Or.inr rfl) pe_str)
      (pss_cons (ps_set (i := 2) sc_law_name.nd rfl (Or.inl rfl) (pe_op op_add pe_int (pe_call (ok_law_take T) (hr.mono (by decide)) (by rfl) T.m_law_take T.F_law_take.kp T.b_law_take .nil pass0 (pa_cons (pv 0) (pa_cons (pe_ix ix_list (pe_lst (pa_cons pe_int (pa_cons pe_int pa_nil))) (pe_callTy (T := "int")  call_int1 (by rfl) T.n_int (by decide +kernel) (pa_cons (pe_cmpR op_eq (pe_call (ok_law_take T) (hr.mono (by decide)) (by rfl) T.m_law_take T.F_law_take.kp T.b_law_take .nil pass0 (pa_cons (pv 0) (pa_cons pe_int pa_nil))) pe_int (nomark _)) pa_nil)) (fun _ _ => rfl)) pa_nil)))))
      (pss_one (ps_ret (pe_join pe_str (pe_lc (own := [("_law_spot", 3)]) (by rfl) sc_law_name.nd (pi_range1 (by rfl) T.n_range (pa_cons (pv 2) pa_nil)) (blkOk_by (own := [("_law_spot", 3)]) (N := N_law_name) (sc := defScope s_law_name) (by decide +kernel)) (fun _ _ _ _ _ => (pg_name (i := 3) sc_law_name.nd rfl (Or.inl rfl))) (fun _ _ _ _ _ => pts_nil) (fun _ _ _ _ _ => (pe_ix ix_str (pv 1) (pe_call (ok_law_take T) (hr.mono (by decide)) (by rfl) T.m_law_take T.F_law_take.kp T.b_law_take .nil pass0 (pa_cons (pv 0) (pa_cons pe_int pa_nil))) (fun _ _ => rfl))))))))), ?_⟩
    -- size = 1 + take(bag, [2, 8][int(take(bag, 4) == 0)])
    refine ⟨_, rfl, by show 2 ≤ sizeLine; decide, fun l1 n1 => ?_⟩
    generalize hE1 : upd H l1 _ = H1
    have w1 := new_at hE1
    have s1 := new_same hE1 n1
    have np1 := B.ne n1
    refine ⟨_, rfl, ?_⟩
    refine take_of (z := 4) (B.same s1) (by decide) (by decide) (by omega) fun r2 H2 a2 b2 B2 k2 => ?_
    have ix : ∃ m : Int, 2 ≤ m ∧ m ≤ 8 ∧ atI [V.int 2, V.int 8] (if decide (V.int r2 = V.int 0) = true then 1 else 0) = some (.int m) := by
      cases decide (V.int r2 = V.int 0)
      · exact ⟨2, by decide, by decide, at0⟩
      · exact ⟨8, by decide, by decide, at1⟩
    obtain ⟨m, m0, m1, em⟩ := ix
    refine ⟨rfl, .inr ⟨_, rfl, l1, _, _, _, rfl, rfl, SqL.of (k2 _ _ w1 np1.symm), em, ?_⟩⟩
    refine take_of (z := m) B2 (by omega) (by omega) (by omega) fun r3 H3 a3 b3 B3 k3 => ?_
    have kA : Kp p H H3 := ((Kp.of s1).trans k2).trans k3
    refine ⟨_, _, rfl, rfl, ?_⟩
    -- "".join([..])
    refine ⟨⟨_, rfl⟩, _, rfl, _, rfl, by omega, by omega, fun D nD => ?_⟩
    have npD := B3.ne nD
    refine lc_range (lo := 0) (n := (1 + r3).toNat) (fun i H' => Bag (n + 2 + i) H' p ∧ Kp p H H' ∧ ∃ ys : List Str, ys.length = i ∧ (∀ y ∈ ys, ∃ c, y = ⟨#[c]⟩ ∧ 97 ≤ c ∧ c ≤ 122) ∧ H' D = some (.lst (ys.map V.str)))
      ⟨B3.same (same_upd nD), kA.same (same_upd nD), [], rfl, (fun y hy => nomatch hy), upd_same⟩ ?_ ?_
    · rintro i H4 hi ⟨B4, k4, ys, hl, hy, w4⟩
      refine ⟨rfl, yes_of (iteT ?_)⟩
      refine ⟨_, rfl, _, rfl, ?_⟩
      refine take_of (z := 26) B4 (by decide) (by decide) (by omega) fun r5 H5 a5 b5 B5 k5 => ?_
      obtain ⟨c, ec, c0, c1⟩ := letter_at a5 b5
      have w5 := k5 _ _ w4 npD.symm
      refine ⟨_, _, c, rfl, rfl, by decide +kernel, ec, _, w5, by rw [List.length_map]; exact small1000 (by omega), ?_⟩
      have nDH : H D = none := kA.free nD npD.symm
      refine ⟨B5.keep (mut_keep rfl) npD, (k4.trans k5).own (mut_keep rfl) nDH, ys ++ [⟨#[c]⟩], by rw [List.length_append, hl]; rfl, fun y hyy => ?_, by rw [upd_same, List.map_append]; rfl⟩
      rcases List.mem_append.mp hyy with hyy | hyy
      · exact hy y hyy
      · rw [List.mem_singleton.mp hyy]
        exact ⟨c, rfl, c0, c1⟩
    · rintro H4 ⟨B4, k4, ys, hl, hy, w4⟩
      have hsum : (ys.map (·.length)).sum ≤ 8 := by
        have : ∀ ys : List Str, (∀ y ∈ ys, ∃ c, y = ⟨#[c]⟩ ∧ 97 ≤ c ∧ c ≤ 122) → (ys.map (·.length)).sum = ys.length := by
          intro ys
          induction ys with
          | nil => exact fun _ => rfl
          | cons y ys ih =>
            intro h
            obtain ⟨c, rfl, _⟩ := h y (List.mem_cons_self ..)
            rw [List.map_cons, List.sum_cons, ih fun z hz => h z (List.mem_cons_of_mem _ hz), List.length_cons]
            show 1 + ys.length = ys.length + 1
            omega
        rw [this ys hy]
        omega
      refine ⟨_, D, ys, rfl, rfl, .inl (SqL.of w4), by rw [show (Str.ofString "").length = 0 from by decide +kernel]; omega, ?_⟩
      exact q _ H4 (join_one hy (by omega) (by omega)) (B4.le (by omega)) k4
def sp_law_names (K : PySem.W.Frag) : Sp := fun vs H Q _ => ∃ (p : Addr) (k n : Nat), vs = [.ref p, .int k] ∧ Bag n H p ∧ n < 700000000 ∧ k ≤ 20 ∧
  ∀ (xs : List Str) (l : Addr) H', xs.length = k → xs.Nodup → (∀ x ∈ xs, Nm x) → H l = none → H' l = some (.lst (xs.map V.str)) → Bag (n + 10 * k) H' p → Kp p H H' → Q (.ref l) H'
theorem ok_law_names (T : Txt K mg) : FnOk P w K mg base CX0 3 (He.fAd K ("_law_names", none)) T.d_law_names ["_law_bag_here", "_law_size"] (sp_law_names K) := by
  refine T.F_law_names.ok sc_law_names (fun vs H Q E h => ?_) (fun cdv A outer s H vs Q E hr h => ?_)
  · obtain ⟨p, k, n, rfl, _⟩ := h
    rfl
  · obtain ⟨p, k, n, rfl, B, hn, hk, q⟩ := h
    refine ⟨_, PSs.nox (pss_cons (ps_set (i := 2) sc_law_names.nd rfl (Or.inr rfl) (pe_lst pa_nil))
      (pss_cons (ps_for PassesOwn.never rfl (pi_range1 (by rfl) T.n_range (pa_cons (pv 1) pa_nil)) (pg_name (i := 3) sc_law_names.nd rfl (Or.inl rfl))
      (pss_cons (ps_set (i := 4) sc_law_names.nd rfl (Or.inr rfl) (pe_call (ok_law_name T) (hr.mono (by decide)) (by rfl) T.m_law_name T.F_law_name.kp T.b_law_name .nil pass0 (pa_cons (pv 0) pa_nil)))
      (pss_mid (ps_if (pt_cmpR op_in_seq (pv 4) (pv 2) (by rfl))
      (pss_one (ps_set (i := 4) sc_law_names.nd rfl (Or.inr rfl) (pe_ix ix_list (pe_lc (own := [("_law_one", 5)]) (by rfl) sc_law_names.nd (pi_str pe_str) (blkOk_by (own := [("_law_one", 5)]) (N := N_law_names) (sc := defScope s_law_names) (by decide +kernel)) (fun _ _ _ _ _ => (pg_name (i := 5) sc_law_names.nd rfl (Or.inl rfl))) (fun _ _ _ _ _ => (pts_one (pt_cmpR (r := rIn K true) op_notIn_seq (pe_op op_add_str (pv 5) (pe_slice sl_str (pv 4) (po_some pe_int) po_none)) (pv 2) (by rfl)))) (fun _ _ _ _ _ => (pe_op op_add_str (pv 5) (pe_slice sl_str (pv 4) (po_some pe_int) po_none)))) pe_int (fun _ _ => rfl))))
      pss_nil)
      (pss_one (ps_expr (pe_bm PySem.F.plainAttrs_list PySem.F.slot_list_append PySem.F.type_list_append mt_append (pv 2) (pa_cons (pv 4) pa_nil)))))))
      (pss_one (ps_ret (pv 2))))), ?_⟩
    refine ⟨by show 0 ≤ sizeLine; decide, fun l nl => ?_⟩
    generalize hE1 : upd H l _ = H1
    have w1 := new_at hE1
    have s1 := new_same hE1 nl
    have npl := B.ne nl
    refine ⟨_, rfl, _, rfl, by omega, by omega, for_range (lo := 0) (n := (k : Int).toNat) (fun i σ H' => Bag (n + 10 * i) H' p ∧ Kp p H H' ∧ ∃ (xs : List Str) (y1 y2 y3 : Option V), xs.length = i ∧ xs.Nodup ∧ (∀ x ∈ xs, Nm x) ∧ H' l = some (.lst (xs.map V.str)) ∧ σ = [some (.ref p), some (.int k), some (.ref l), y1, y2, y3])
      ⟨B.same s1, Kp.of s1, [], none, none, none, rfl, List.nodup_nil, (fun x hx => nomatch hx), w1, rfl⟩ ?_ ?_⟩
    · rintro i σ H2 hi ⟨B2, k2, xs, y1, y2, y3, hl, hnd, hnm, w2, rfl⟩
      -- word = name(bag)
      refine ⟨_, rfl, p, n + 10 * i, rfl, B2, by omega, fun w H3 hw B3 k3 => ?_⟩
      have w3 := k3 _ _ w2 npl.symm
      -- if word in found
      refine ⟨fun σ H' => Same H3 H' ∧ ∃ (x : Str) (y3 : Option V), Nm x ∧ x ∉ xs ∧ σ = [some (.ref p), some (.int k), some (.ref l), some (.int (0 + (i : Int))), some (.str x), y3], ?_, ?_⟩
      · refine ⟨_, rfl, _, rfl, l, _, rfl, .inl (SqL.of w3), rfl, strs_flat xs, _, rfl, ?_⟩
        rw [inV_str]
        refine ite2 (fun hc => ?_) (fun hc => ?_)
        · refine ⟨_, rfl, fun D nD => ?_⟩
          refine lc_it (walk_str (z := lettersS)) (fun j H' => Same H3 H' ∧ H' D = some (.lst ((((List.range j).map fun i => (⟨#[97 + i]⟩ : Str) ++ tailS w).filter fun x => decide (x ∉ xs)).map V.str))) ⟨same_upd nD, upd_same⟩ (fun _ _ _ _ => trivial) ?_ ?_
          · rintro j x H4 H4' hj ⟨s4, w4⟩ ⟨rfl, c, hc', rfl⟩
            obtain ⟨hj26, rfl⟩ := letters_get hc'
            refine ⟨rfl, ?_⟩
            have hlen : (tailS w).length ≤ 8 := Nat.le_trans (cutS_length _ _ _) hw.2.2
            have ltot : ((⟨#[97 + j]⟩ : Str).length + (tailS w).length) ≤ sizeLine := by
              have h1 : (⟨#[97 + j]⟩ : Str).length = 1 := rfl
              rw [h1]
              exact Nat.le_of_lt (small1000 (by omega))
            refine ⟨_, rfl, _, rfl, _, rfl, w, rfl, Nat.le_trans hw.2.2 (by decide), _, _, rfl, rfl, ltot, _, rfl, l, _, rfl, .inl (SqL.of (s4 _ _ w3)), rfl, strs_flat xs, _, rfl, ?_⟩
            rw [range_map_succ', List.filter_append, List.map_append]
            show if (if true = true then !inV (.str ((⟨#[97 + j]⟩ : Str) ++ tailS w)) (xs.map V.str) else _) = true then _ else _
            rw [if_pos rfl, inV_str]
            by_cases hin : (⟨#[97 + j]⟩ : Str) ++ tailS w ∈ xs
            · rw [decide_eq_true hin]
              refine iteF ⟨s4, ?_⟩
              rw [List.filter_cons_of_neg (p := fun x => decide (x ∉ xs)) (by rw [decide_eq_false (fun z => z hin)]; exact Bool.false_ne_true)]
              rw [List.filter_nil, List.map_nil, List.append_nil]
              exact w4
            · rw [decide_eq_false hin]
              refine iteT ?_
              refine ⟨_, rfl, _, rfl, _, rfl, w, rfl, Nat.le_trans hw.2.2 (by decide), _, _, rfl, rfl, ltot, _, w4, ?_, Same.own (q := D) (H1 := H4') s4 (mut_keep rfl) nD, ?_⟩
              · rw [List.length_map]
                refine Nat.lt_of_le_of_lt (List.length_filter_le _ _) ?_
                rw [List.length_map, List.length_range]
                exact small1000 (by omega)
              · rw [upd_same, List.filter_cons_of_pos (p := fun x => decide (x ∉ xs)) (decide_eq_true hin)]
                rfl
          · rintro H4 ⟨s4, w4⟩
            rw [letters_size] at w4
            obtain ⟨x, hxm, hxf⟩ := free_in (cands_nodup (tailS w)) (ds := xs) (by unfold cands; rw [List.length_map, List.length_range]; omega)
            generalize hF : ((List.range 26).map fun i => (⟨#[97 + i]⟩ : Str) ++ tailS w).filter (fun x => decide (x ∉ xs)) = fs at w4
            have hmem : ∀ z ∈ fs, Nm z ∧ z ∉ xs := fun z hz => by
              rw [← hF] at hz
              obtain ⟨h1, h2⟩ := List.mem_filter.mp hz
              obtain ⟨i, hi, rfl⟩ := List.mem_map.mp h1
              exact ⟨cand_nm hw (List.mem_range.mp hi), of_decide_eq_true h2⟩
            have hx : x ∈ fs := by
              rw [← hF]
              exact List.mem_filter.mpr ⟨hxm, decide_eq_true hxf⟩
            cases fs with
            | nil => cases hx
            | cons z zs =>
              refine ⟨D, _, _, _, rfl, rfl, SqL.of w4, at0, s4, z, _, (hmem z (List.mem_cons_self ..)).1, (hmem z (List.mem_cons_self ..)).2, rfl⟩
        · refine ⟨Same.refl H3, w, _, hw, fun z => hc (decide_eq_true z), rfl⟩
      · rintro σ H4 ⟨s4, x, y3, hx, hxn, rfl⟩
        have w4 := s4 _ _ w3
        refine ⟨_, rfl, .inl ⟨rfl, _, SqL.of w4⟩, _, rfl, l, _, _, rfl, rfl, w4, by rw [List.length_map]; exact small1000 (by omega), ?_⟩
        have B4 := B3.same s4
        refine ⟨(B4.keep (mut_keep rfl) npl).le (by omega), ((k2.trans k3).same s4).own (mut_keep rfl) nl, xs ++ [x], _, _, _, by rw [List.length_append, hl]; rfl, ?_, fun z hz => ?_, by rw [upd_same, List.map_append]; rfl, rfl⟩
        · rw [List.nodup_append]
          exact ⟨hnd, List.nodup_cons.mpr ⟨by simp, List.nodup_nil⟩, fun a ha b hb e => hxn (by rw [List.mem_singleton.mp hb] at e; rw [← e]; exact ha)⟩
        · rcases List.mem_append.mp hz with hz | hz
          · exact hnm z hz
          · rw [List.mem_singleton.mp hz]
            exact hx
    · rintro σ H2 ⟨B2, k2, xs, y1, y2, y3, hl, hnd, hnm, w2, rfl⟩
      exact ⟨_, rfl, q xs l H2 (by omega) hnd hnm nl w2 (B2.le (by omega)) k2⟩

-- SPLIT
/-! ### some of a pool -/
def sp_law_some (K : PySem.W.Frag) : Sp := fun vs H Q _ => ∃ (p l : Addr) (k n : Nat) (xs : List Str), vs = [.ref p, .ref l, .int k] ∧ Bag n H p ∧ n < 700000000 ∧ k ≤ 20 ∧ SqL K H l (xs.map V.str) ∧ l ≠ p ∧ xs.Nodup ∧ xs.length ≤ 100 ∧ (∀ x ∈ xs, Nm x) ∧
  ∀ (ys : List Str) (t : Addr) H', ys.Nodup → (∀ y ∈ ys, y ∈ xs) → ys.length ≤ k → H t = none → H' t = some (.tup (ys.map V.str)) → Bag (n + 1 + k) H' p → Kp p H H' → Q (.ref t) H'
theorem ok_law_some (T : Txt K mg) : FnOk P w K mg base CX0 2 (He.fAd K ("_law_some", none)) T.d_law_some ["_law_bag_here", "_law_pool", "_law_most"] (sp_law_some K) := by
  refine T.F_law_some.ok sc_law_some (fun vs H Q E h => ?_) (fun cdv A outer s H vs Q E hr h => ?_)
  · obtain ⟨p, l, k, n, xs, rfl, _⟩ := h
    rfl
  · obtain ⟨p, l, k, n, xs, rfl, B, hn, hk, hL, nlp, hnd, hxl, hnm, q⟩ := h
    refine ⟨_, PSs.nox (pss_cons (ps_set (i := 3) sc_law_some.nd rfl (Or.inl rfl) (pe_callTy (T := "list")  call_list_of (by rfl) T.n_list (by decide +kernel) (pa_cons (pv 1) pa_nil)))
      (pss_cons (ps_set (i := 4) sc_law_some.nd rfl (Or.inl rfl) (pe_lst pa_nil))
      (pss_cons (ps_for PassesOwn.never rfl (pi_range1 (by rfl) T.n_range (pa_cons (pe_call (ok_law_take T) (hr.mono (by decide)) (by rfl) T.m_law_take T.F_law_take.kp T.b_law_take .nil pass0 (pa_cons (pv 0) (pa_cons (pe_op op_add (pv 2) pe_int) pa_nil))) pa_nil)) (pg_name (i := 5) sc_law_some.nd rfl (Or.inl rfl))
      (pss_one (ps_if (pt_cmpR (op_neD hr.units) (pv 3) (pe_lst pa_nil) (nomark _))
      (pss_one (ps_expr (pe_bm PySem.F.plainAttrs_list PySem.F.slot_list_append PySem.F.type_list_append mt_append (pv 4) (pa_cons (pe_bm PySem.F.plainAttrs_list PySem.F.slot_list_pop PySem.F.type_list_pop mt_popAt (pv 3) (pa_cons (pe_call (ok_law_take T) (hr.mono (by decide)) (by rfl) T.m_law_take T.F_law_take.kp T.b_law_take .nil pass0 (pa_cons (pv 0) (pa_cons (pe_callB (id := "len")  call_len_seq (by rfl) T.n_len (by decide +kernel) (pa_cons (pv 3) pa_nil)) pa_nil))) pa_nil)) pa_nil))))
      pss_nil)))
      (pss_one (ps_ret (pe_callTy (T := "tuple")  call_tuple_of (by rfl) T.n_tuple (by decide +kernel) (pa_cons (pv 4) pa_nil))))))), ?_⟩
    -- left = list(pool); found = []
    refine ⟨_, rfl, l, _, rfl, .inl hL, fun a na => ?_⟩
    generalize hE1 : upd H a _ = H1
    have w1 := new_at hE1
    have s1 := new_same hE1 na
    have npa := B.ne na
    refine ⟨by show 0 ≤ sizeLine; decide, fun b nb => ?_⟩
    generalize hE2 : upd H1 b _ = H2
    have w2 := new_at hE2
    have s2 := new_same hE2 nb
    have npb := (B.same s1).ne nb
    have nab : a ≠ b := ne_some w1 nb
    have nbH : H b = none := s1.free nb
    -- range(take(bag, most + 1))
    refine ⟨_, rfl, _, rfl, _, _, rfl, rfl, ?_⟩
    refine take_of (z := (k : Int) + 1) ((B.same s1).same s2) (by omega) (by omega) (by omega) fun r3 H3 a3 b3 B3 k3 => ?_
    have kA : Kp p H H3 := (Kp.of (s1.trans s2)).trans k3
    refine ⟨r3, rfl, by omega, by omega, for_range (lo := 0) (n := r3.toNat) (fun i σ H' => Bag (n + 1 + i) H' p ∧ Kp p H H' ∧ ∃ (ls fs : List Str) (y : Option V), H' a = some (.lst (ls.map V.str)) ∧ H' b = some (.lst (fs.map V.str)) ∧ (fs ++ ls).Nodup ∧ (∀ x ∈ fs ++ ls, x ∈ xs) ∧ fs.length ≤ i ∧ ls.length ≤ 100 ∧
        σ = [some (.ref p), some (.ref l), some (.int k), some (.ref a), some (.ref b), y])
      ⟨B3, kA, xs, [], none, k3 _ _ (s2 _ _ w1) npa.symm, k3 _ _ w2 npb.symm, hnd, fun x hx => hx, Nat.le_refl _, hxl, rfl⟩ ?_ ?_⟩
    · rintro i σ H4 hi ⟨B4, k4, ls, fs, y, wa, wb, hnd4, hsub, hfl, hll, rfl⟩
      have nmL : ∀ x ∈ ls, Nm x := fun x hx => hnm x (hsub x (List.mem_append_right _ hx))
      -- if left != []
      refine ⟨_, rfl, by show 0 ≤ sizeLine; decide, fun l5 n5 => ?_⟩
      generalize hE5 : upd H4 l5 _ = H5
      have w5 : H5 l5 = some (.lst (([] : List Str).map V.str)) := new_at hE5
      have s5 := new_same hE5 n5
      have wa5 := s5 _ _ wa
      have wb5 := s5 _ _ wb
      refine neD_strs (SqL.of wa5) (SqL.of w5) (fun x hx => (nmL x hx).ok) (fun x hx => nomatch hx) ⟨_, rfl, ?_⟩
      by_cases hls : ls = []
      · rw [decide_eq_true hls]
        refine iteF ?_
        exact ⟨(B4.same s5).le (by omega), k4.same s5, ls, fs, _, wa5, wb5, hnd4, hsub, by omega, hll, rfl⟩
      · rw [decide_eq_false hls]
        refine iteT ?_
        have hpos : 0 < ls.length := List.length_pos_iff.mpr hls
        -- found.append(left.pop(take(bag, len(left))))
        refine ⟨_, rfl, .inl ⟨rfl, _, SqL.of wb5⟩, _, rfl, .inl ⟨rfl, _, SqL.of wa5⟩, _, rfl, _, rfl, a, _, rfl, .inl (SqL.of wa5), ?_⟩
        refine take_of (z := ((ls.map V.str).length : Int)) (B4.same s5) (by rw [List.length_map]; omega) (by rw [List.length_map]; omega) (by omega) fun r6 H6 a6 b6 B6 k6 => ?_
        rw [List.length_map] at b6
        have hr : r6.toNat < ls.length := by omega
        have wa6 := k6 _ _ wa5 npa.symm
        have wb6 := k6 _ _ wb5 npb.symm
        refine ⟨a, _, r6, r6.toNat, .str ls[r6.toNat], rfl, rfl, wa6, by omega, by omega, by rw [List.length_map]; exact seq_ix a6 b6, by rw [List.getElem?_map, List.getElem?_eq_getElem hr]; rfl, ?_⟩
        generalize hE7 : upd H6 a _ = H7
        have wa7 := new_at hE7
        have m7 := mut_keep hE7
        have wb7 := m7 _ _ wb6 nab.symm
        refine ⟨b, _, _, rfl, rfl, wb7, by rw [List.length_map]; exact small1000 (by omega), ?_⟩
        generalize hE8 : upd H7 b _ = H8
        have wb8 := new_at hE8
        have m8 := mut_keep hE8
        have hperm : (fs ++ [ls[r6.toNat]] ++ ls.eraseIdx r6.toNat).Perm (fs ++ ls) := by
          rw [List.append_assoc]
          exact List.Perm.append_left fs (perm_pick ls r6.toNat hr)
        refine ⟨((B6.keep m7 npa).keep m8 npb).le (by omega), (((k4.same s5).trans k6).own m7 na).own m8 nbH, ls.eraseIdx r6.toNat, fs ++ [ls[r6.toNat]], _, ?_, by rw [List.map_append]; exact wb8, hperm.nodup_iff.mpr hnd4, fun x hx => hsub x (hperm.mem_iff.mp hx), by rw [List.length_append]; exact Nat.succ_le_succ hfl, Nat.le_trans (List.length_eraseIdx_le ..) hll, rfl⟩
        have wa8 := m8 _ _ wa7 nab
        rw [map_pick] at wa8
        exact wa8
    · rintro σ H4 ⟨B4, k4, ls, fs, y, wa, wb, hnd4, hsub, hfl, hll, rfl⟩
      refine ⟨_, rfl, b, _, rfl, .inl ⟨SqL.of wb, fun t nt => ?_⟩⟩
      have ntp := (B4.ne nt).symm
      exact q fs t _ (List.nodup_append.mp hnd4).1 (fun y hy => hsub y (List.mem_append_left _ hy)) (by omega) (k4.free nt ntp) upd_same ((B4.same (same_upd nt)).le (by omega)) (k4.same (same_upd nt))

/-! ### a rule, its parts -/
def sp_law_rule_parts (K : PySem.W.Frag) : Sp := fun vs H Q _ => ∃ (p : Addr) (n : Nat), vs = [.ref p] ∧ Bag n H p ∧ n < 800000000 ∧
  ∀ (f m t b s : Int) (v : Addr) H', Five f m t b s → H v = none → H' v = some (.tup [.int f, .int m, .int t, .int b, .int s]) → Bag (n + 10) H' p → Kp p H H' → Q (.ref v) H'
theorem ok_law_rule_parts (T : Txt K mg) : FnOk P w K mg base CX0 2 (He.fAd K ("_law_rule_parts", none)) T.d_law_rule_parts ["_law_bag_here"] (sp_law_rule_parts K) := by
  refine T.F_law_rule_parts.ok sc_law_rule_parts (fun vs H Q E h => ?_) (fun cdv A outer s H vs Q E hr h => ?_)
  · obtain ⟨p, n, rfl, _⟩ := h
    rfl
  · obtain ⟨p, n, rfl, B, hn, q⟩ := h
    refine ⟨_, PSs.nox (pss_cons (ps_set (i := 1) sc_law_rule_parts.nd rfl (Or.inl rfl) (pe_lst (pa_cons (pe_op op_add pe_int (pe_call (ok_law_take T) (hr.mono (by decide)) (by rfl) T.m_law_take T.F_law_take.kp T.b_law_take .nil pass0 (pa_cons (pv 0) (pa_cons (pe_ix ix_list (pe_lst (pa_cons pe_int (pa_cons pe_int pa_nil))) (pe_call (ok_law_take T) (hr.mono (by decide)) (by rfl) T.m_law_take T.F_law_take.kp T.b_law_take .nil pass0 (pa_cons (pv 0) (pa_cons pe_int pa_nil))) (fun _ _ => rfl)) pa_nil)))) (pa_cons (pe_op op_add pe_int (pe_call (ok_law_take T) (hr.mono (by decide)) (by rfl) T.m_law_take T.F_law_take.kp T.b_law_take .nil pass0 (pa_cons (pv 0) (pa_cons (pe_ix ix_list (pe_lst (pa_cons pe_int (pa_cons pe_int pa_nil))) (pe_call (ok_law_take T) (hr.mono (by decide)) (by rfl) T.m_law_take T.F_law_take.kp T.b_law_take .nil pass0 (pa_cons (pv 0) (pa_cons pe_int pa_nil))) (fun _ _ => rfl)) pa_nil)))) pa_nil))))
      (pss_cons (ps_expr (pe_bm PySem.F.plainAttrs_list PySem.F.slot_list_append PySem.F.type_list_append mt_append (pv 1) (pa_cons (pe_op op_add pe_int (pe_call (ok_law_take T) (hr.mono (by decide)) (by rfl) T.m_law_take T.F_law_take.kp T.b_law_take .nil pass0 (pa_cons (pv 0) (pa_cons (pe_ix ix_list (pe_lst (pa_cons pe_int (pa_cons pe_int (pa_cons (pe_op op_powL pe_int pe_int) pa_nil)))) (pe_call (ok_law_take T) (hr.mono (by decide)) (by rfl) T.m_law_take T.F_law_take.kp T.b_law_take .nil pass0 (pa_cons (pv 0) (pa_cons pe_int pa_nil))) (fun _ _ => rfl)) pa_nil)))) pa_nil)))
      (pss_cons (ps_expr (pe_bm PySem.F.plainAttrs_list PySem.F.slot_list_append PySem.F.type_list_append mt_append (pv 1) (pa_cons (pe_call (ok_law_take T) (hr.mono (by decide)) (by rfl) T.m_law_take T.F_law_take.kp T.b_law_take .nil pass0 (pa_cons (pv 0) (pa_cons (pe_ix ix_list (pe_lst (pa_cons pe_int (pa_cons pe_int pa_nil))) (pe_call (ok_law_take T) (hr.mono (by decide)) (by rfl) T.m_law_take T.F_law_take.kp T.b_law_take .nil pass0 (pa_cons (pv 0) (pa_cons pe_int pa_nil))) (fun _ _ => rfl)) pa_nil))) pa_nil)))
      (pss_one (ps_ret (pe_callTy (T := "tuple")  call_tuple_of (by rfl) T.n_tuple (by decide +kernel) (pa_cons (pe_op op_cat (pv 1) (pe_lst (pa_cons (pe_call (ok_law_take T) (hr.mono (by decide)) (by rfl) T.m_law_take T.F_law_take.kp T.b_law_take .nil pass0 (pa_cons (pv 0) (pa_cons (pe_ix ix_list (pe_lst (pa_cons pe_int (pa_cons pe_int (pa_cons (pe_op op_add (pe_op op_powL pe_int pe_int) pe_int) pa_nil)))) (pe_call (ok_law_take T) (hr.mono (by decide)) (by rfl) T.m_law_take T.F_law_take.kp T.b_law_take .nil pass0 (pa_cons (pv 0) (pa_cons pe_int pa_nil))) (fun _ _ => rfl)) pa_nil))) pa_nil))) pa_nil))))))), ?_⟩
    refine ⟨_, rfl, by show 2 ≤ sizeLine; decide, fun l1 n1 => ⟨_, rfl, ?_⟩⟩
    refine take_menu (zs := [3, 1000]) B (by omega) n1 rfl (by decide) (by decide) (by decide) fun z1 r1 H1 hz1 a1 b1 B1 k1 => ?_
    refine ⟨_, _, rfl, rfl, _, rfl, by show 2 ≤ sizeLine; decide, fun l2 n2 => ⟨_, rfl, ?_⟩⟩
    refine take_menu (zs := [3, 10]) B1 (by omega) n2 rfl (by decide) (by decide) (by decide) fun z2 r2 H2 hz2 a2 b2 B2 k2 => ?_
    have k12 := k1.trans k2
    refine ⟨_, _, rfl, rfl, by show 2 ≤ sizeLine; decide, fun some n3 => ?_⟩
    have npS := B2.ne n3
    have n3' := k12.free n3 npS.symm
    generalize hE : upd H2 some _ = H3
    have w3 := new_at hE
    have s3 := new_same hE n3
    have k13 := k12.same s3
    -- append top
    refine ⟨_, rfl, .inl ⟨rfl, _, SqL.of w3⟩, _, rfl, _, _, rfl, rfl, pow10, by show 3 ≤ sizeLine; decide, fun l4 n4 => ⟨_, rfl, ?_⟩⟩
    refine take_menu (zs := [20, 1000, 10 ^ (6 : Int).toNat]) (B2.same s3) (by omega) n4 rfl (by decide) (by decide) (by decide) fun z3 r3 H4 hz3 a3 b3 B4 k4 => ?_
    have w4 := k4 _ _ w3 npS.symm
    refine ⟨_, _, rfl, rfl, some, _, _, rfl, rfl, w4, by show 2 < sizeLine; decide, ?_⟩
    generalize hE5 : upd H4 some _ = H5
    have w5 := new_at hE5
    have m5 := mut_keep hE5
    have B5 := B4.keep m5 npS
    have k15 := (k13.trans k4).own m5 n3'
    -- append burst
    refine ⟨_, rfl, .inl ⟨rfl, _, SqL.of w5⟩, _, rfl, by show 2 ≤ sizeLine; decide, fun l6 n6 => ⟨_, rfl, ?_⟩⟩
    refine take_menu (zs := [4, 21]) B5 (by omega) n6 rfl (by decide) (by decide) (by decide) fun z4 r4 H6 hz4 a4 b4 B6 k6 => ?_
    have w6 := k6 _ _ w5 npS.symm
    refine ⟨some, _, _, rfl, rfl, w6, by show 3 < sizeLine; decide, ?_⟩
    generalize hE7 : upd H6 some _ = H7
    have w7 := new_at hE7
    have m7 := mut_keep hE7
    have B7 := B6.keep m7 npS
    have k17 := (k15.trans k6).own m7 n3'
    -- tuple(some + [span])
    refine ⟨_, rfl, _, rfl, _, _, rfl, rfl, pow10, _, _, rfl, rfl, by show 3 ≤ sizeLine; decide, fun l8 n8 => ⟨_, rfl, ?_⟩⟩
    refine take_menu (zs := [30, 1000, 10 ^ (6 : Int).toNat + 1]) B7 (by omega) n8 rfl (by decide) (by decide) (by decide) fun z5 r5 H8 hz5 a5 b5 B8 k8 => ?_
    have w8 := k8 _ _ w7 npS.symm
    refine ⟨by show 1 ≤ sizeLine; decide, fun l9 n9 => ?_⟩
    generalize hE9 : upd H8 l9 _ = H9
    have w9 := new_at hE9
    have s9 := new_same hE9 n9
    refine ⟨some, l9, _, _, rfl, rfl, s9 _ _ w8, w9, by show 5 ≤ sizeLine; decide, fun l10 n10 => ?_⟩
    generalize hE10 : upd H9 l10 _ = H10
    have w10 := new_at hE10
    have s10 := new_same hE10 n10
    refine ⟨l10, _, rfl, .inl ⟨SqL.of w10, fun v nv => ?_⟩⟩
    generalize hE11 : upd H10 v _ = H11
    have w11 := new_at hE11
    have s11 := new_same hE11 nv
    have s8 : Same H8 H11 := (s9.trans s10).trans s11
    have k18 : Kp p H H11 := (k17.trans k8).same s8
    have npv : v ≠ p := fun e => by
      rw [e] at nv
      obtain ⟨o, ho⟩ := (B8.same (s9.trans s10)).some
      rw [ho] at nv
      cases nv
    refine q (1 + r1) (1 + r2) (1 + r3) r4 r5 v H11 ⟨?_, ?_, ?_, ?_, ?_, ?_, ?_, ?_, ?_, ?_⟩ (k17.trans k8 |>.same (s9.trans s10) |>.free nv npv) w11 (B8.same s8) k18
    all_goals (have e6 : (10 : Int) ^ (6 : Int).toNat = 1000000 := by decide
               simp only [List.mem_cons, List.not_mem_nil, or_false, e6] at hz1 hz2 hz3 hz4 hz5; omega)

/-! ### the rule itself -/
abbrev rFs (f m t b s : Int) : List (Str × V) := [("first", .int f), ("times", .int m), ("top", .int t), ("burst", .int b), ("span", .int s)]
/-- a rule stands at a -/
def RuleAt (K : PySem.W.Frag) (H : Hp) (a : Addr) (f m t b s : Int) : Prop := ∃ dx, H a = some (.ins (He.ga K "Rule") dx (rFs f m t b s))
theorem RuleAt.same {H H' : Hp} {a : Addr} {f m t b s : Int} (h : RuleAt K H a f m t b s) (e : Same H H') : RuleAt K H' a f m t b s := by
  obtain ⟨dx, h⟩ := h
  exact ⟨dx, e _ _ h⟩
theorem RuleAt.keep {H H' : Hp} {a p : Addr} {f m t b s : Int} (h : RuleAt K H a f m t b s) (e : Kp p H H') (n : a ≠ p) : RuleAt K H' a f m t b s := by
  obtain ⟨dx, h⟩ := h
  exact ⟨dx, e _ _ h n⟩
def sp_Rule_init (K : PySem.W.Frag) : Sp := fun vs H Q _ => ∃ (p dx : Addr) (f m t b s : Int), vs = [.ref p, .int f, .int m, .int t, .int b, .int s] ∧ H p = some (.ins (He.ga K "Rule") dx []) ∧
  ∀ H', H' p = some (.ins (He.ga K "Rule") dx (rFs f m t b s)) → Kp p H H' → Q .non H'
theorem ok_Rule_init (T : Txt K mg) : FnOk P w K mg base CX0 1 (He.fAd K ("Rule", some "__init__")) T.d_Rule_init ["self", "first", "times", "top", "burst", "span"] (sp_Rule_init K) := by
  refine T.F_Rule_init.ok sc_Rule_init (fun vs H Q E h => ?_) (fun cdv A outer s H vs Q E hr h => ?_)
  · obtain ⟨p, dx, f, m, t, b, s, rfl, _⟩ := h
    rfl
  · obtain ⟨p, dx, f, m, t, b, s, rfl, hp, q⟩ := h
    refine ⟨_, PSs.nox (pss_cons (ps_fld (pv 0) (pv 1) rfl)
      (pss_cons (ps_fld (pv 0) (pv 2) rfl)
      (pss_cons (ps_fld (pv 0) (pv 3) rfl)
      (pss_cons (ps_fld (pv 0) (pv 4) rfl)
      (pss_one (ps_fld (pv 0) (pv 5) rfl)))))), ?_⟩
    refine ⟨_, rfl, _, rfl, p, _, dx, [], rfl, hp, T.cl_Rule, T.na_Rule_first, (by show 0 < 1000; decide), ?_⟩
    refine ⟨_, rfl, _, rfl, p, _, dx, _, rfl, upd_same, T.cl_Rule, T.na_Rule_times, (by show 1 < 1000; decide), ?_⟩
    refine ⟨_, rfl, _, rfl, p, _, dx, _, rfl, upd_same, T.cl_Rule, T.na_Rule_top, (by show 2 < 1000; decide), ?_⟩
    refine ⟨_, rfl, _, rfl, p, _, dx, _, rfl, upd_same, T.cl_Rule, T.na_Rule_burst, (by show 3 < 1000; decide), ?_⟩
    refine ⟨_, rfl, _, rfl, p, _, dx, _, rfl, upd_same, T.cl_Rule, T.na_Rule_span, (by show 4 < 1000; decide), ?_⟩
    refine q _ upd_same fun c o h n => ?_
    rw [upd_ne n, upd_ne n, upd_ne n, upd_ne n, upd_ne n]
    exact h

def sp_law_rule (K : PySem.W.Frag) : Sp := fun vs H Q _ => ∃ (v : Addr) (f m t b s : Int), vs = [.ref v] ∧ SqT K H v [.int f, .int m, .int t, .int b, .int s] ∧
  ∀ a H', H a = none → Same H H' → RuleAt K H' a f m t b s → Q (.ref a) H'
theorem ok_law_rule (T : Txt K mg) : FnOk P w K mg base CX0 3 (He.fAd K ("_law_rule", none)) T.d_law_rule ["_law_five"] (sp_law_rule K) := by
  refine T.F_law_rule.ok sc_law_rule (fun vs H Q E h => ?_) (fun cdv A outer s H vs Q E hr h => ?_)
  · obtain ⟨v, f, m, t, b, s, rfl, _⟩ := h
    rfl
  · obtain ⟨v, f, m, t, b, s, rfl, hv, q⟩ := h
    refine ⟨_, PSs.nox (pss_one (ps_ret (pe_makeK0 T.mk_Rule (ok_Rule_init T) (hr.mono (by decide)) (by rfl) T.m_Rule T.kb_Rule_init_1_first_times_top_burst_span.choose_spec pass0 (pk_cons (pe_ix ix_tup (pv 0) pe_int (fun _ _ => rfl)) (pk_cons (pe_ix ix_tup (pv 0) pe_int (fun _ _ => rfl)) (pk_cons (pe_ix ix_tup (pv 0) pe_int (fun _ _ => rfl)) (pk_cons (pe_ix ix_tup (pv 0) pe_int (fun _ _ => rfl)) (pk_cons (pe_ix ix_tup (pv 0) pe_int (fun _ _ => rfl)) pk_nil)))))))), ?_⟩
    refine ⟨_, rfl, v, _, _, _, rfl, rfl, hv, at0, _, rfl, v, _, _, _, rfl, rfl, hv, at1, _, rfl, v, _, _, _, rfl, rfl, hv, at2, _, rfl, v, _, _, _, rfl, rfl, hv, at3, _, rfl, v, _, _, _, rfl, rfl, hv, at4, rfl, rfl, fun x dx nx nd ne => ?_⟩
    refine ⟨x, dx, f, m, t, b, s, rfl, upd_same, fun H' w kp => ⟨rfl, q x H' nx (Same.made nx nd fun b o e n => kp b o e n) ⟨dx, w⟩⟩⟩

-- SPLIT
/-! ### the facts -/
def sp_law_facts (K : PySem.W.Frag) : Sp := fun vs H Q _ => ∃ (p : Addr) (k n : Nat), vs = [.ref p, .int k] ∧ Bag n H p ∧ n < 600000000 ∧ 0 < k ∧ k ≤ 16 ∧
  ∀ (ns ss : List Str) (us : List (Str × UF)) (kvs : List (Key × V)) (d : Addr) H', us.map (·.1) = ns → ns.Nodup → (∀ x ∈ ns, Nm x) → 0 < ns.length → ns.length ≤ k → ss.Nodup → (∀ x ∈ ss, Nm x ∧ x ∉ ns) → ss.length ≤ 2 →
    (∀ q ∈ us, UOk ns ss q.1 q.2) → FactsAt H' kvs us → H d = none → H' d = some (.dK kvs) → Bag (n + 2000) H' p → Kp p H H' → Q (.ref d) H'
theorem ok_law_facts (T : Txt K mg) : FnOk P w K mg base CX0 4 (He.fAd K ("_law_facts", none)) T.d_law_facts ["_law_bag_here", "_law_most"] (sp_law_facts K) := by
  refine T.F_law_facts.ok sc_law_facts (fun vs H Q E h => ?_) (fun cdv A outer s H vs Q E hr h => ?_)
  · obtain ⟨p, k, n, rfl, _⟩ := h
    rfl
  · obtain ⟨p, k, n, rfl, B, hn, hk0, hk, q⟩ := h
    refine ⟨_, PSs.nox (pss_cons (ps_set (i := 2) sc_law_facts.nd rfl (Or.inr rfl) (pe_call (ok_law_names T) (hr.mono (by decide)) (by rfl) T.m_law_names T.F_law_names.kp T.b_law_names .nil pass0 (pa_cons (pv 0) (pa_cons (pe_op op_add pe_int (pe_call (ok_law_take T) (hr.mono (by decide)) (by rfl) T.m_law_take T.F_law_take.kp T.b_law_take .nil pass0 (pa_cons (pv 0) (pa_cons (pv 1) pa_nil)))) pa_nil))))
      (pss_cons (ps_set (i := 3) sc_law_facts.nd rfl (Or.inl rfl) (pe_slice sl_list (pe_lc (own := [("_law_one", 16)]) (by rfl) sc_law_facts.nd (pi_str pe_str) (blkOk_by (own := [("_law_one", 16)]) (N := N_law_facts) (sc := defScope s_law_facts) (by decide +kernel)) (fun _ _ _ _ _ => (pg_name (i := 16) sc_law_facts.nd rfl (Or.inl rfl))) (fun _ _ _ _ _ => (pts_one (pt_cmpR (r := rIn K true) op_notIn_seq (pe_op op_add_str (pv 16) pe_str) (pv 2) (by rfl)))) (fun _ _ _ _ _ => (pe_op op_add_str (pv 16) pe_str))) po_none (po_some pe_int)))
      (pss_cons (ps_set (i := 4) sc_law_facts.nd rfl (Or.inl rfl) (pe_cmpR op_eq (pe_call (ok_law_take T) (hr.mono (by decide)) (by rfl) T.m_law_take T.F_law_take.kp T.b_law_take .nil pass0 (pa_cons (pv 0) (pa_cons pe_int pa_nil))) pe_int (nomark _)))
      (pss_cons (ps_set (i := 5) sc_law_facts.nd rfl (Or.inl rfl) pe_dnewK)
      (pss_cons (ps_for PassesOwn.never rfl (pi_list (pv 2)) (pg_name (i := 6) sc_law_facts.nd rfl (Or.inr rfl))
      (pss_cons (ps_setLc (i := 7) (own := [("_law_one", 16)]) (by rfl) sc_law_facts.nd rfl rfl (sw_true rfl rfl rfl (by decide +kernel)) (pi_list (pv 2)) (blkOk_by (own := [("_law_one", 16)]) (N := N_law_facts) (sc := defScope s_law_facts) (by decide +kernel)) (fun _ _ _ _ _ => (pg_name (i := 16) sc_law_facts.nd rfl (Or.inl rfl))) (fun _ _ _ _ _ => (pts_one (pt_cmpR op_ne (pv 16) (pv 6) (nomark _)))) (fun _ _ _ _ _ => (pv 16)))
      (pss_cons (ps_set (i := 8) sc_law_facts.nd rfl (Or.inl rfl) (pe_ix ix_list (pe_lst (pa_cons pe_int (pa_cons pe_int (pa_cons pe_int (pa_cons pe_int (pa_cons pe_int pa_nil)))))) (pe_call (ok_law_take T) (hr.mono (by decide)) (by rfl) T.m_law_take T.F_law_take.kp T.b_law_take .nil pass0 (pa_cons (pv 0) (pa_cons pe_int pa_nil))) (fun _ _ => rfl)))
      (pss_cons (ps_set (i := 9) sc_law_facts.nd rfl (Or.inl rfl) (pe_call (ok_law_some T) (hr.mono (by decide)) (by rfl) T.m_law_some T.F_law_some.kp T.b_law_some .nil pass0 (pa_cons (pv 0) (pa_cons (pe_op op_cat (pv 7) (pe_slice sl_list (pv 3) po_none (po_some (pe_callTy (T := "int")  call_int1 (by rfl) T.n_int (by decide +kernel) (pa_cons (pe_cmpR op_eq (pe_call (ok_law_take T) (hr.mono (by decide)) (by rfl) T.m_law_take T.F_law_take.kp T.b_law_take .nil pass0 (pa_cons (pv 0) (pa_cons pe_int pa_nil))) pe_int (nomark _)) pa_nil))))) (pa_cons (pv 8) pa_nil)))))
      (pss_cons (ps_set (i := 10) sc_law_facts.nd rfl (Or.inl rfl) (pe_call (ok_law_some T) (hr.mono (by decide)) (by rfl) T.m_law_some T.F_law_some.kp T.b_law_some .nil pass0 (pa_cons (pv 0) (pa_cons (pe_op op_cat (pv 7) (pe_slice sl_list (pv 3) po_none (po_some (pe_callTy (T := "int")  call_int1 (by rfl) T.n_int (by decide +kernel) (pa_cons (pe_cmpR op_eq (pe_call (ok_law_take T) (hr.mono (by decide)) (by rfl) T.m_law_take T.F_law_take.kp T.b_law_take .nil pass0 (pa_cons (pv 0) (pa_cons pe_int pa_nil))) pe_int (nomark _)) pa_nil))))) (pa_cons (pe_ix ix_list (pe_lst (pa_cons pe_int (pa_cons pe_int (pa_cons pe_int pa_nil)))) (pe_call (ok_law_take T) (hr.mono (by decide)) (by rfl) T.m_law_take T.F_law_take.kp T.b_law_take .nil pass0 (pa_cons (pv 0) (pa_cons pe_int pa_nil))) (fun _ _ => rfl)) pa_nil)))))
      (pss_cons (ps_set (i := 11) sc_law_facts.nd rfl (Or.inl rfl) (pe_call (ok_law_some T) (hr.mono (by decide)) (by rfl) T.m_law_some T.F_law_some.kp T.b_law_some .nil pass0 (pa_cons (pv 0) (pa_cons (pe_op op_cat (pv 7) (pe_slice sl_list (pv 3) po_none (po_some pe_int))) (pa_cons (pe_op op_mul (pe_ix ix_list (pe_lst (pa_cons pe_int (pa_cons pe_int (pa_cons pe_int (pa_cons pe_int pa_nil))))) (pe_call (ok_law_take T) (hr.mono (by decide)) (by rfl) T.m_law_take T.F_law_take.kp T.b_law_take .nil pass0 (pa_cons (pv 0) (pa_cons pe_int pa_nil))) (fun _ _ => rfl)) (pe_callTy (T := "int")  call_int1 (by rfl) T.n_int (by decide +kernel) (pa_cons (pe_not (pv 4)) pa_nil))) pa_nil)))))
      (pss_cons (ps_set (i := 12) sc_law_facts.nd rfl (Or.inl rfl) (pe_call (ok_law_some T) (hr.mono (by decide)) (by rfl) T.m_law_some T.F_law_some.kp T.b_law_some .nil pass0 (pa_cons (pv 0) (pa_cons (pe_op op_cat (pv 7) (pv 3)) (pa_cons (pe_ix ix_list (pe_lst (pa_cons pe_int (pa_cons pe_int (pa_cons pe_int (pa_cons pe_int pa_nil))))) (pe_call (ok_law_take T) (hr.mono (by decide)) (by rfl) T.m_law_take T.F_law_take.kp T.b_law_take .nil pass0 (pa_cons (pv 0) (pa_cons pe_int pa_nil))) (fun _ _ => rfl)) pa_nil)))))
      (pss_cons (ps_set (i := 13) sc_law_facts.nd rfl (Or.inl rfl) (pe_ix ix_list (pe_lst (pa_cons pe_str (pa_cons pe_str (pa_cons pe_str (pa_cons pe_str (pa_cons pe_str pa_nil)))))) (pe_call (ok_law_take T) (hr.mono (by decide)) (by rfl) T.m_law_take T.F_law_take.kp T.b_law_take .nil pass0 (pa_cons (pv 0) (pa_cons pe_int pa_nil))) (fun _ _ => rfl)))
      (pss_cons (ps_set (i := 14) sc_law_facts.nd rfl (Or.inl rfl) (pe_mid (pe_ifExp (pt_cmpR op_eq (pv 13) pe_str (nomark _)) (pe_ix ix_list (pe_op op_cat (pv 7) (pv 3)) (pe_call (ok_law_take T) (hr.mono (by decide)) (by rfl) T.m_law_take T.F_law_take.kp T.b_law_take .nil pass0 (pa_cons (pv 0) (pa_cons (pe_op op_add (pe_callB (id := "len")  call_len_seq (by rfl) T.n_len (by decide +kernel) (pa_cons (pv 7) pa_nil)) pe_int) pa_nil))) (fun _ _ => rfl)) pe_non)))
      (pss_cons (ps_set (i := 15) sc_law_facts.nd rfl (Or.inl rfl) (pe_mid (pe_ifExp (pt_cmpR op_gt (pe_call (ok_law_take T) (hr.mono (by decide)) (by rfl) T.m_law_take T.F_law_take.kp T.b_law_take .nil pass0 (pa_cons (pv 0) (pa_cons pe_int pa_nil))) pe_int (nomark _)) (pe_call (ok_law_rule_parts T) (hr.mono (by decide)) (by rfl) T.m_law_rule_parts T.F_law_rule_parts.kp T.b_law_rule_parts .nil pass0 (pa_cons (pv 0) pa_nil)) pe_non)))
      (pss_one (ps_dput (hu_of hr) (pv 5) (pv 6) (pe_tup (pa_cons (pv 13) (pa_cons (pv 9) (pa_cons (pv 10) (pa_cons (pv 11) (pa_cons (pv 12) (pa_cons (pv 14) (pa_cons (pv 15) pa_nil)))))))) rfl))))))))))))
      (pss_one (ps_ret (pv 5)))))))), ?_⟩
    -- named = names(bag, 1 + take(bag, most))
    refine ⟨_, rfl, _, rfl, _, rfl, ?_⟩
    refine take_of (z := (k : Int)) B (by omega) (by omega) (by omega) fun r1 H1 a1 b1 B1 k1 => ?_
    obtain ⟨j1, rfl⟩ := Int.eq_ofNat_of_zero_le a1
    refine ⟨_, _, rfl, rfl, p, 1 + j1, n + 1, rfl, B1, by omega, by omega, fun ns l H2 hnl hnd hnm nl w2 B2 k2 => ?_⟩
    have kA := k1.trans k2
    have npl : l ≠ p := fun e => by
      obtain ⟨o, ho⟩ := B1.some
      rw [e, ho] at nl
      cases nl
    -- strange
    refine ⟨_, rfl, fun D nD => ?_⟩
    refine lc_it (walk_str (z := srettelS)) (fun j H' => Same H2 H' ∧ H' D = some (.lst ((((List.range j).map fun i => (⟨#[122 - i]⟩ : Str) ++ Str.ofString "zz").filter fun x => decide (x ∉ ns)).map V.str))) ⟨same_upd nD, upd_same⟩ (fun _ _ _ _ => trivial) ?_ ?_
    · rintro j x H4 H4' hj ⟨s4, w4⟩ ⟨rfl, c, hc', rfl⟩
      obtain ⟨hj26, rfl⟩ := srettel_get hc'
      refine ⟨rfl, ?_⟩
      have ltot : ((⟨#[122 - j]⟩ : Str).length + (Str.ofString "zz").length) ≤ sizeLine := by
        have h1 : (⟨#[122 - j]⟩ : Str).length = 1 := rfl
        rw [h1]
        decide +kernel
      refine ⟨_, rfl, _, _, rfl, rfl, ltot, _, rfl, l, _, rfl, .inl (SqL.of (s4 _ _ w2)), rfl, strs_flat ns, _, rfl, ?_⟩
      rw [range_map_succ', List.filter_append, List.map_append]
      show if (if true = true then !inV (.str ((⟨#[122 - j]⟩ : Str) ++ Str.ofString "zz")) (ns.map V.str) else _) = true then _ else _
      rw [if_pos rfl, inV_str]
      by_cases hin : (⟨#[122 - j]⟩ : Str) ++ Str.ofString "zz" ∈ ns
      · rw [decide_eq_true hin]
        refine iteF ⟨s4, ?_⟩
        rw [List.filter_cons_of_neg (p := fun x => decide (x ∉ ns)) (by rw [decide_eq_false (fun z => z hin)]; exact Bool.false_ne_true)]
        rw [List.filter_nil, List.map_nil, List.append_nil]
        exact w4
      · rw [decide_eq_false hin]
        refine iteT ?_
        refine ⟨_, rfl, _, _, rfl, rfl, ltot, _, w4, ?_, Same.own (q := D) (H1 := H4') s4 (mut_keep rfl) nD, ?_⟩
        · rw [List.length_map]
          refine Nat.lt_of_le_of_lt (List.length_filter_le _ _) ?_
          rw [List.length_map, List.length_range]
          exact small1000 (by omega)
        · rw [upd_same, List.filter_cons_of_pos (p := fun x => decide (x ∉ ns)) (decide_eq_true hin)]
          rfl
    rintro H4 ⟨s4, w4⟩
    rw [srettel_size] at w4
    have hpos := filter_free (rcands_nodup (Str.ofString "zz")) (ds := ns) (by unfold rcands; rw [List.length_map, List.length_range]; omega)
    have hcn := List.Nodup.sublist List.filter_sublist (rcands_nodup (Str.ofString "zz")) (l₁ := (rcands (Str.ofString "zz")).filter fun x => decide (x ∉ ns))
    have hcm : ∀ x ∈ (rcands (Str.ofString "zz")).filter fun x => decide (x ∉ ns), Nm x ∧ x ∉ ns := fun x hx => by
      obtain ⟨h1, h2⟩ := List.mem_filter.mp hx
      obtain ⟨i, hi, rfl⟩ := List.mem_map.mp h1
      exact ⟨rcand_nm (List.mem_range.mp hi), of_decide_eq_true h2⟩
    change H4 D = some (.lst (((rcands (Str.ofString "zz")).filter fun x => decide (x ∉ ns)).map V.str)) at w4
    generalize (rcands (Str.ofString "zz")).filter (fun x => decide (x ∉ ns)) = fs at hpos hcn hcm w4
    refine ⟨_, rfl, D, _, rfl, SqL.of w4, fun a na => ?_⟩
    rw [show cutV (fs.map V.str) none (some 2) = (fs.take 2).map V.str from cutV_strs fs 2]
    have ssn : (fs.take 2).Nodup := List.Nodup.sublist (List.take_sublist _ _) hcn
    have ssm : ∀ x ∈ fs.take 2, Nm x ∧ x ∉ ns := fun x hx => hcm x (List.mem_of_mem_take hx)
    have ssl : (fs.take 2).length ≤ 2 := by rw [List.length_take]; omega
    have ssp : 0 < (fs.take 2).length := by rw [List.length_take]; omega
    generalize fs.take 2 = ss at ssn ssm ssl ssp
    generalize hE5 : upd H4 a _ = H5
    have wa := new_at hE5
    have s5 := s4.trans (new_same hE5 na)
    have wl := s5 _ _ w2
    have npa : p ≠ a := (B2.same s4).ne na
    have nla : l ≠ a := ne_some (s4 _ _ w2) na
    -- loose
    refine ⟨_, rfl, ?_⟩
    refine take_of (z := 4) (B2.same s5) (by decide) (by decide) (by omega) fun r6 H6 a6 b6 B6 k6 => ?_
    have kB := (kA.same s5).trans k6
    have wl6 := k6 _ _ wl npl
    have wa6 := k6 _ _ wa npa.symm
    refine ⟨rfl, fun d nd => ?_⟩
    generalize decide (V.int r6 = V.int 0) = loose
    generalize hE7 : upd H6 d _ = H7
    have wd := new_at hE7
    have s7 := new_same hE7 nd
    have npd := B6.ne nd
    have nld : l ≠ d := ne_some wl6 nd
    have nad : a ≠ d := ne_some wa6 nd
    have ndH : H d = none := kB.free nd npd.symm
    -- for word in named
    refine ⟨_, rfl, l, rfl, ⟨_, SqL.of (s7 _ _ wl6)⟩, for_list (xs := ns.map V.str) (fun i σ H' => Bag (n + 300 + 100 * i) H' p ∧ Kp p H H' ∧ ∃ (us : List (Str × UF)) (kvs : List (Key × V)) (y6 y7 y8 y9 y10 y11 y12 y13 y14 y15 y16 : Option V), us.map (·.1) = ns.take i ∧ (∀ q ∈ us, UOk ns ss q.1 q.2) ∧ FactsAt H' kvs us ∧ H' d = some (.dK kvs) ∧ H' l = some (.lst (ns.map V.str)) ∧ H' a = some (.lst (ss.map V.str)) ∧
        σ = [some (.ref p), some (.int k), some (.ref l), some (.ref a), some (.bl loose), some (.ref d), y6, y7, y8, y9, y10, y11, y12, y13, y14, y15, y16])
      ⟨(B6.same s7).le (by omega), kB.same s7, [], [], none, none, none, none, none, none, none, none, none, none, none, rfl, (fun q hq => nomatch hq), .nil, wd, s7 _ _ wl6, s7 _ _ wa6, rfl⟩ ?_ ?_ ?_⟩
    · rintro i σ H' hi ⟨B8, k8, us, kvs, y6, y7, y8, y9, y10, y11, y12, y13, y14, y15, y16, hus, huo, hfa, wd8, wl8, wa8, rfl⟩
      exact SqL.of wl8
    · rintro i x σ H8 hi ⟨B8, k8, us, kvs, y6, y7, y8, y9, y10, y11, y12, y13, y14, y15, y16, hus, huo, hfa, wd8, wl8, wa8, rfl⟩
      obtain ⟨word, hword, rfl⟩ := map_str_get hi
      have hil : i < ns.length := by
        rw [List.getElem?_eq_some_iff] at hword
        exact hword.1
      have hwn : word ∈ ns := List.mem_of_getElem? hword
      -- pool
      refine ⟨_, rfl, l, rfl, ⟨_, SqL.of wl8⟩, fun D nD => ?_⟩
      refine lc_list (xs := ns.map V.str) (fun j H' => Same H8 H' ∧ H' D = some (.lst (((ns.take j).filter fun x => decide (x ≠ word)).map V.str))) ⟨same_upd nD, upd_same⟩ (fun j H' hj h => SqL.of (h.1 _ _ wl8)) ?_ ?_
      · rintro j x H9 hj ⟨s9, w9⟩
        obtain ⟨one, hone, rfl⟩ := map_str_get hj
        refine ⟨rfl, ?_⟩
        rw [take_filter_snoc _ hone]
        refine ⟨_, rfl, _, rfl, rfl, _, rfl, ?_⟩
        by_cases he : one = word
        · subst he
          rw [decide_eq_true (show V.str one = V.str one from rfl)]
          refine iteF ⟨s9, ?_⟩
          rw [if_neg (by rw [decide_eq_false (fun z => z rfl)]; exact Bool.false_ne_true), List.append_nil]
          exact w9
        · rw [decide_eq_false (fun z : V.str one = V.str word => he (by injection z))]
          refine iteT ⟨_, rfl, _, w9, ?_, Same.own (q := D) (H1 := H9) s9 (mut_keep rfl) nD, ?_⟩
          · rw [List.length_map]
            refine Nat.lt_of_le_of_lt (List.length_filter_le _ _) (Nat.lt_of_le_of_lt (List.length_take_le' ..) (small1000 ?_))
            omega
          · rw [upd_same, if_pos (decide_eq_true he), List.map_append]
            rfl
      rintro H9 ⟨s9, wp9⟩
      rw [List.length_map, List.take_length] at wp9
      have mixed := fun zs => mix_ok (zs := zs) hnd ssn hnm ssm (by omega) ssl hwn
      have plen : (ns.filter fun x => decide (x ≠ word)).length ≤ 20 := Nat.le_trans (List.length_filter_le _ _) (by omega)
      generalize hpool : (ns.filter fun x => decide (x ≠ word)) = pool at mixed wp9 plen
      have B9 := B8.same s9
      have npD : p ≠ D := B8.ne nD
      have wa9 := s9 _ _ wa8
      have wl9 := s9 _ _ wl8
      have wd9 := s9 _ _ wd8
      have fa9 := hfa.same s9
      -- wide
      refine ⟨by show 5 ≤ sizeLine; decide, fun l1 n1 => ⟨_, rfl, ?_⟩⟩
      refine pick_menu [V.int (0 : Nat), V.int (1 : Nat), V.int (1 : Nat), V.int (2 : Nat), V.int (4 : Nat)] B9 (by omega) n1 rfl (by decide) (by decide) fun wide H10 hwide B10 k10 => ?_
      obtain ⟨wd10, rfl, hwd⟩ : ∃ j : Nat, wide = .int j ∧ j ≤ 4 := by
        simp only [List.mem_cons, List.not_mem_nil, or_false] at hwide
        rcases hwide with rfl | rfl | rfl | rfl | rfl
        · exact ⟨0, rfl, by decide⟩
        · exact ⟨1, rfl, by decide⟩
        · exact ⟨1, rfl, by decide⟩
        · exact ⟨2, rfl, by decide⟩
        · exact ⟨4, rfl, by decide⟩
      -- musts
      refine ⟨_, rfl, _, rfl, _, rfl, _, rfl, ?_⟩
      refine take_of (z := 12) B10 (by decide) (by decide) (by omega) fun r11 H11 a11 b11 B11 k11 => ?_
      have kk11 := k10.trans k11
      refine ⟨rfl, .inr ⟨_, rfl, _, rfl, a, _, rfl, SqL.of (kk11 _ _ wa9 npa.symm), fun c1 n12 => ?_⟩⟩
      obtain ⟨m1, hm1⟩ := cutV_bit ss (decide (V.int r11 = V.int 0))
      rw [hm1]
      generalize hE12 : upd H11 c1 _ = H12
      have wc12 := new_at hE12
      have s12 := new_same hE12 n12
      have kk12 := kk11.same s12
      refine ⟨D, c1, _, _, rfl, rfl, kk12 _ _ wp9 npD.symm, wc12, by rw [List.length_map, List.length_map, List.length_take]; exact Nat.le_of_lt (small1000 (by omega)), fun c2 n13 => ?_⟩
      rw [← List.map_append]
      generalize hE13 : upd H12 c2 _ = H13
      have wc13 := new_at hE13
      have kk13 := kk12.same (new_same hE13 n13)
      have B13 := (B11.same s12).same (new_same hE13 n13)
      obtain ⟨x1, x2, x3, x4⟩ := mixed (ss.take m1) (List.take_sublist _ _)
      refine ⟨_, rfl, p, c2, wd10, _, _, rfl, B13, by omega, by omega, SqL.of wc13, ((B11.same s12).ne n13).symm, x1, x2, x3, fun musts t1 H14 u1 u2 u3 nt1 wt1 B14 k14 => ?_⟩
      have kk14 := kk13.trans k14
      have npt1 : t1 ≠ p := fun e => by
        rw [e] at wt1
        exact B14.notTup _ wt1
      have hmusts : ∀ x ∈ musts, (x ∈ ns ∨ x ∈ ss) ∧ x ≠ word := fun x hx => x4 x (u2 x hx)
      -- likes
      refine ⟨_, rfl, _, rfl, _, rfl, _, rfl, ?_⟩
      refine take_of (z := 3) B14 (by decide) (by decide) (by omega) fun r15 H15 a15 b15 B15 k15 => ?_
      have kk15 := kk14.trans k15
      refine ⟨rfl, .inr ⟨_, rfl, _, rfl, a, _, rfl, SqL.of (kk15 _ _ wa9 npa.symm), fun c3 n16 => ?_⟩⟩
      obtain ⟨m2, hm2⟩ := cutV_bit ss (decide (V.int r15 = V.int 0))
      rw [hm2]
      generalize hE16 : upd H15 c3 _ = H16
      have wc16 := new_at hE16
      have s16 := new_same hE16 n16
      have kk16 := kk15.same s16
      refine ⟨D, c3, _, _, rfl, rfl, kk16 _ _ wp9 npD.symm, wc16, by rw [List.length_map, List.length_map, List.length_take]; exact Nat.le_of_lt (small1000 (by omega)), fun c4 n17 => ?_⟩
      rw [← List.map_append]
      generalize hE17 : upd H16 c4 _ = H17
      have wc17 := new_at hE17
      have s17 := new_same hE17 n17
      have kk17 := kk16.same s17
      have B17 := (B15.same s16).same s17
      have np4 : p ≠ c4 := (B15.same s16).ne n17
      obtain ⟨x5, x6, x7, x8⟩ := mixed (ss.take m2) (List.take_sublist _ _)
      refine ⟨by show 3 ≤ sizeLine; decide, fun l2 n2 => ⟨_, rfl, ?_⟩⟩
      refine pick_menu [V.int (1 : Nat), V.int (3 : Nat), V.int (8 : Nat)] B17 (by omega) n2 rfl (by decide) (by decide) fun wide2 H18 hwide2 B18 k18 => ?_
      obtain ⟨wd18, rfl, hwd18⟩ : ∃ j : Nat, wide2 = .int j ∧ j ≤ 8 := by
        simp only [List.mem_cons, List.not_mem_nil, or_false] at hwide2
        rcases hwide2 with rfl | rfl | rfl
        · exact ⟨1, rfl, by decide⟩
        · exact ⟨3, rfl, by decide⟩
        · exact ⟨8, rfl, by decide⟩
      refine ⟨p, c4, wd18, _, _, rfl, B18, by omega, by omega, SqL.of (k18 _ _ wc17 np4.symm), np4.symm, x5, x6, x7, fun likes t2 H19 u4 u5 u6 nt2 wt2 B19 k19 => ?_⟩
      have kk19 := (kk17.trans k18).trans k19
      have kl19 : Kp p H14 H19 := (((k15.same s16).same s17).trans k18).trans k19
      have npt2 : t2 ≠ p := fun e => by
        rw [e] at wt2
        exact B19.notTup _ wt2
      have hlikes : ∀ x ∈ likes, (x ∈ ns ∨ x ∈ ss) ∧ x ≠ word := fun x hx => x8 x (u5 x hx)
      have wt1b := kl19 _ _ wt1 npt1
      -- foes
      refine ⟨_, rfl, _, rfl, _, rfl, _, rfl, a, _, rfl, SqL.of (kk19 _ _ wa9 npa.symm), fun c5 n20 => ?_⟩
      rw [show cutV (ss.map V.str) none (some 1) = (ss.take 1).map V.str from cutV_strs ss 1]
      generalize hE20 : upd H19 c5 _ = H20
      have wc20 := new_at hE20
      have s20 := new_same hE20 n20
      have kk20 := kk19.same s20
      refine ⟨D, c5, _, _, rfl, rfl, kk20 _ _ wp9 npD.symm, wc20, by rw [List.length_map, List.length_map, List.length_take]; exact Nat.le_of_lt (small1000 (by omega)), fun c6 n21 => ?_⟩
      rw [← List.map_append]
      generalize hE21 : upd H20 c6 _ = H21
      have wc21 := new_at hE21
      have s21 := new_same hE21 n21
      have B21 := (B19.same s20).same s21
      have np6 : p ≠ c6 := (B19.same s20).ne n21
      obtain ⟨x9, x10, x11, x12⟩ := mixed (ss.take 1) (List.take_sublist _ _)
      refine ⟨by show 4 ≤ sizeLine; decide, fun l3 n3 => ⟨_, rfl, ?_⟩⟩
      refine pick_menu [V.int (0 : Nat), V.int (0 : Nat), V.int (1 : Nat), V.int (2 : Nat)] B21 (by omega) n3 rfl (by decide) (by decide) fun wide3 H22 hwide3 B22 k22 => ?_
      obtain ⟨wd22, rfl, hwd22⟩ : ∃ j : Nat, wide3 = .int j ∧ j ≤ 2 := by
        simp only [List.mem_cons, List.not_mem_nil, or_false] at hwide3
        rcases hwide3 with rfl | rfl | rfl | rfl
        · exact ⟨0, rfl, by decide⟩
        · exact ⟨0, rfl, by decide⟩
        · exact ⟨1, rfl, by decide⟩
        · exact ⟨2, rfl, by decide⟩
      obtain ⟨wd23, e23, hwd23⟩ : ∃ j : Nat, ((wd22 : Nat) : Int) * (if (!loose) = true then 1 else 0) = (j : Int) ∧ j ≤ 2 := by
        cases loose
        · exact ⟨wd22, Int.mul_one _, hwd22⟩
        · exact ⟨0, Int.mul_zero _, by decide⟩
      refine ⟨_, rfl, _, rfl, .inr ⟨_, rfl, _, _, rfl, rfl, cmul_b, ?_⟩⟩
      refine ⟨p, c6, wd23, _, _, (by show [V.ref p, V.ref c6, V.int _] = _; rw [e23]), B22, by omega, by omega, SqL.of (k22 _ _ wc21 np6.symm), np6.symm, x9, x10, x11, fun foes t3 H24 u7 u8 u9 nt3 wt3 B24 k24 => ?_⟩
      have kl24 : Kp p H19 H24 := (((Kp.of s20).same s21).trans k22).trans k24
      have kk24 := kk19.trans kl24
      have npt3 : t3 ≠ p := fun e => by
        rw [e] at wt3
        exact B24.notTup _ wt3
      have hfoes : ∀ x ∈ foes, (x ∈ ns ∨ x ∈ ss) ∧ x ≠ word := fun x hx => x12 x (u8 x hx)
      have wt1c := kl24 _ _ wt1b npt1
      have wt2c := kl24 _ _ wt2 npt2
      -- elders
      refine ⟨_, rfl, _, rfl, _, rfl, D, a, _, _, rfl, rfl, kk24 _ _ wp9 npD.symm, kk24 _ _ wa9 npa.symm, by rw [List.length_map, List.length_map]; exact Nat.le_of_lt (small1000 (by omega)), fun c7 n25 => ?_⟩
      rw [← List.map_append]
      generalize hE25 : upd H24 c7 _ = H25
      have wc25 := new_at hE25
      have s25 := new_same hE25 n25
      have np7 : p ≠ c7 := B24.ne n25
      obtain ⟨x13, x14, x15, x16⟩ := mixed ss (List.Sublist.refl _)
      refine ⟨by show 4 ≤ sizeLine; decide, fun l4 n4 => ⟨_, rfl, ?_⟩⟩
      refine pick_menu [V.int (0 : Nat), V.int (1 : Nat), V.int (2 : Nat), V.int (8 : Nat)] (B24.same s25) (by omega) n4 rfl (by decide) (by decide) fun wide4 H26 hwide4 B26 k26 => ?_
      obtain ⟨wd26, rfl, hwd26⟩ : ∃ j : Nat, wide4 = .int j ∧ j ≤ 8 := by
        simp only [List.mem_cons, List.not_mem_nil, or_false] at hwide4
        rcases hwide4 with rfl | rfl | rfl | rfl
        · exact ⟨0, rfl, by decide⟩
        · exact ⟨1, rfl, by decide⟩
        · exact ⟨2, rfl, by decide⟩
        · exact ⟨8, rfl, by decide⟩
      refine ⟨p, c7, wd26, _, _, rfl, B26, by omega, by omega, SqL.of (k26 _ _ wc25 np7.symm), np7.symm, x13, x14, x15, fun elders t4 H27 u10 u11 u12 nt4 wt4 B27 k27 => ?_⟩
      have kl27 : Kp p H24 H27 := ((Kp.of s25).trans k26).trans k27
      have kk27 := kk24.trans kl27
      have npt4 : t4 ≠ p := fun e => by
        rw [e] at wt4
        exact B27.notTup _ wt4
      have helders : ∀ x ∈ elders, (x ∈ ns ∨ x ∈ ss) ∧ x ≠ word := fun x hx => x16 x (u11 x hx)
      have wt1d := kl27 _ _ wt1c npt1
      have wt2d := kl27 _ _ wt2c npt2
      have wt3d := kl27 _ _ wt3 npt3
      -- sort
      refine ⟨by show 5 ≤ sizeLine; decide, fun l5 n5 => ⟨_, rfl, ?_⟩⟩
      refine pick_menu [V.str (Str.ofString "work"), V.str (Str.ofString "work"), V.str (Str.ofString "work"), V.str (Str.ofString "goal"), V.str (Str.ofString "door")] B27 (by omega) n5 rfl (by decide) (by decide) fun sortV H28 hsort B28 k28 => ?_
      obtain ⟨sort, rfl, hsort'⟩ : ∃ z : Str, sortV = .str z ∧ (z = Str.ofString "work" ∨ z = Str.ofString "goal" ∨ z = Str.ofString "door") := by
        simp only [List.mem_cons, List.not_mem_nil, or_false] at hsort
        rcases hsort with rfl | rfl | rfl | rfl | rfl
        · exact ⟨_, rfl, .inl rfl⟩
        · exact ⟨_, rfl, .inl rfl⟩
        · exact ⟨_, rfl, .inl rfl⟩
        · exact ⟨_, rfl, .inr (.inl rfl)⟩
        · exact ⟨_, rfl, .inr (.inr rfl)⟩
      have kk28 := kk27.trans k28
      have kl28 := k28
      -- goal
      refine ⟨fun v H' => Bag (n + 300 + 100 * i + 61) H' p ∧ Kp p H28 H' ∧ ∃ g : Option Str, v = optV g ∧ (∀ x ∈ g.toList, (x ∈ ns ∨ x ∈ ss) ∧ x ≠ word) ∧ (sort = Str.ofString "door" → g ≠ none) ∧ (sort ≠ Str.ofString "door" → g = none), ?_, ?_⟩
      · refine ⟨_, rfl, rfl, _, rfl, ?_⟩
        by_cases hdoor : sort = Str.ofString "door"
        · subst hdoor
          refine iteYd rfl ?_
          have wp28 := kk28 _ _ wp9 npD.symm
          refine ⟨_, rfl, _, rfl, D, a, _, _, rfl, rfl, wp28, kk28 _ _ wa9 npa.symm, by rw [List.length_map, List.length_map]; exact Nat.le_of_lt (small1000 (by omega)), fun c8 n29 => ?_⟩
          rw [← List.map_append]
          generalize hE29 : upd H28 c8 _ = H29
          have wc29 := new_at hE29
          have s29 := new_same hE29 n29
          have np8 : p ≠ c8 := B28.ne n29
          refine ⟨_, rfl, _, rfl, D, _, rfl, .inl (SqL.of (s29 _ _ wp28)), _, _, rfl, rfl, ?_⟩
          refine take_of (z := ((pool.map V.str).length : Int) + 1) (B28.same s29) (by omega) (by rw [List.length_map]; omega) (by omega) fun r30 H30 a30 b30 B30 k30 => ?_
          rw [List.length_map] at b30
          obtain ⟨z, hz, ez⟩ := menu_str (zs := pool ++ ss) a30 (by rw [List.length_append]; omega)
          exact ⟨c8, _, _, _, rfl, rfl, SqL.of (k30 _ _ wc29 np8.symm), ez, B30.le (by omega), (Kp.of s29).trans k30, some z, rfl, (fun x hx => by cases List.mem_singleton.mp hx; exact x16 _ hz), (fun _ e => nomatch e), (fun z => absurd rfl z)⟩
        · refine iteNd (fun z => hdoor (by injection z)) ?_
          exact ⟨B28.le (by omega), Kp.refl _ _, none, rfl, (fun x hx => nomatch hx), (fun z => absurd z hdoor), (fun _ => rfl)⟩
      rintro vg H29 ⟨B29, k29, goal, rfl, hgoal, hg1, hg2⟩
      have kl29 := kl28.trans k29
      -- five
      refine ⟨fun v H' => Bag (n + 300 + 100 * i + 80) H' p ∧ Kp p H29 H' ∧ ∃ o, FiveAt H' v o, ?_, ?_⟩
      · refine ⟨_, rfl, ?_⟩
        refine take_of (z := 3) B29 (by decide) (by decide) (by omega) fun r30 H30 a30 b30 B30 k30 => ?_
        refine ⟨_, _, rfl, rfl, _, rfl, ?_⟩
        refine ite2 (fun _ => ?_) (fun _ => ?_)
        · exact ⟨_, rfl, p, _, rfl, B30, by omega, fun f m t b s v H' F nv wv B' k' => ⟨B'.le (by omega), k30.trans k', some (f, m, t, b, s), v, rfl, wv, F⟩⟩
        · exact ⟨B30.le (by omega), k30, none, rfl⟩
      rintro vf H30 ⟨B30, k30, five, hfive⟩
      have kl30 := kl29.trans k30
      have kk30 := (kk28.trans k29).trans k30
      -- found[word] = (...)
      refine ⟨_, rfl, _, rfl, _, rfl, _, rfl, _, rfl, _, rfl, _, rfl, by show 7 ≤ sizeLine; decide, fun tt ntt => ?_⟩
      generalize hE31 : upd H30 tt _ = H31
      have wt31 := new_at hE31
      have s31 := new_same hE31 ntt
      have wd31 := s31 _ _ (kk30 _ _ wd9 npd.symm)
      have fa31 := (fa9.keep kk30 B9.notTup).same s31
      have hfree : word ∉ us.map (·.1) := by
        rw [hus]
        intro hm
        obtain ⟨j, hj, e⟩ := List.getElem_of_mem hm
        rw [List.length_take] at hj
        rw [List.getElem_take] at e
        have hji : j = i := by
          have h1 : ns[i]? = some word := hword
          have h2 : ns[j]? = some word := by rw [List.getElem?_eq_getElem (by omega), e]
          exact (List.getElem?_inj (by omega) hnd).mp (h2.trans h1.symm)
        omega
      have hul : kvs.length ≤ 20 := by
        have h1 := hfa.len
        have h2 := congrArg List.length hus
        rw [List.length_map, List.length_take] at h2
        omega
      refine ⟨_, rfl, _, rfl, d, _, rfl, DPut.k (k := Sum.inr word) wd31 (small1000 (by omega)), ?_⟩
      rw [putK_new _ (hfa.free hfree)]
      generalize hE32 : upd H31 d _ = H32
      have wd32 := new_at hE32
      have m32 := mut_keep hE32
      have nt32 := NotTup.dK wd31
      refine ⟨((B30.same s31).keep m32 npd).le (by omega), (((k8.same s9).trans kk30).same s31).own m32 ndH, us ++ [(word, ⟨sort, musts, likes, foes, elders, goal, five⟩)], _, _, _, _, _, _, _, _, _, _, _, _, ?_, ?_, .snoc (fa31.keep m32 nt32) ?_, wd32, m32 _ _ (s31 _ _ (kk30 _ _ wl9 npl)) nld, m32 _ _ (s31 _ _ (kk30 _ _ wa9 npa.symm)) nad, rfl⟩
      · rw [List.map_append, hus, List.take_add_one, hword]
        rfl
      · intro q hq
        rcases List.mem_append.mp hq with hq | hq
        · exact huo q hq
        · rw [List.mem_singleton.mp hq]
          refine ⟨hsort', u1, u4, u7, u10, by show musts.length ≤ 8; omega, by show likes.length ≤ 8; omega, by show foes.length ≤ 8; omega, by show elders.length ≤ 8; omega, fun x hx => ?_, hg1, hg2⟩
          rcases List.mem_append.mp hx with hx | hx
          · rcases List.mem_append.mp hx with hx | hx
            · rcases List.mem_append.mp hx with hx | hx
              · rcases List.mem_append.mp hx with hx | hx
                · exact hmusts x hx
                · exact hlikes x hx
              · exact hfoes x hx
            · exact helders x hx
          · exact hgoal x hx
      · refine FactAt.keep (FactAt.same (H := H31) ?_ (Same.refl _)) m32 nt32
        exact ⟨tt, t1, t2, t3, t4, vf, rfl, wt31, s31 _ _ (kl30 _ _ wt1d npt1), s31 _ _ (kl30 _ _ wt2d npt2), s31 _ _ (kl30 _ _ wt3d npt3), s31 _ _ (kl30 _ _ wt4 npt4), hfive.same s31⟩
    · rintro σ H8 ⟨B8, k8, us, kvs, y6, y7, y8, y9, y10, y11, y12, y13, y14, y15, y16, hus, huo, hfa, wd8, wl8, wa8, rfl⟩
      rw [List.length_map] at B8 hus
      rw [List.take_length] at hus
      exact ⟨_, rfl, q ns ss us kvs d H8 hus hnd hnm (by omega) (by omega) ssn ssm ssl huo hfa ndH wd8 (B8.le (by omega)) k8⟩

-- SPLIT
/-! ### a unit -/
abbrev uFs (w k n x b a o r : V) : List (Str × V) := [("name", w), ("kind", k), ("needs", n), ("wants", x), ("bars", b), ("after", a), ("opens", o), ("rule", r)]
def sp_Unit_init (K : PySem.W.Frag) : Sp := fun vs H Q _ => ∃ (p dx : Addr) (v1 v2 v3 v4 v5 v6 v7 v8 : V), vs = [.ref p, v1, v2, v3, v4, v5, v6, v7, v8] ∧ H p = some (.ins (He.ga K "Unit") dx []) ∧
  ∀ H', H' p = some (.ins (He.ga K "Unit") dx (uFs v1 v2 v3 v4 v5 v6 v7 v8)) → Kp p H H' → Q .non H'
theorem ok_Unit_init (T : Txt K mg) : FnOk P w K mg base CX0 1 (He.fAd K ("Unit", some "__init__")) T.d_Unit_init ["self", "name", "kind", "needs", "wants", "bars", "after", "opens", "rule"] (sp_Unit_init K) := by
  refine T.F_Unit_init.ok sc_Unit_init (fun vs H Q E h => ?_) (fun cdv A outer s H vs Q E hr h => ?_)
  · obtain ⟨p, dx, v1, v2, v3, v4, v5, v6, v7, v8, rfl, _⟩ := h
    rfl
  · obtain ⟨p, dx, v1, v2, v3, v4, v5, v6, v7, v8, rfl, hp, q⟩ := h
    refine ⟨_, PSs.nox (pss_cons (ps_fld (pv 0) (pv 1) rfl)
      (pss_cons (ps_fld (pv 0) (pv 2) rfl)
      (pss_cons (ps_fld (pv 0) (pv 3) rfl)
      (pss_cons (ps_fld (pv 0) (pv 4) rfl)
      (pss_cons (ps_fld (pv 0) (pv 5) rfl)
      (pss_cons (ps_fld (pv 0) (pv 6) rfl)
      (pss_cons (ps_fld (pv 0) (pv 7) rfl)
      (pss_one (ps_fld (pv 0) (pv 8) rfl))))))))), ?_⟩
    refine ⟨_, rfl, _, rfl, p, _, dx, [], rfl, hp, T.cl_Unit, T.na_Unit_name, (by show 0 < 1000; decide), ?_⟩
    refine ⟨_, rfl, _, rfl, p, _, dx, _, rfl, upd_same, T.cl_Unit, T.na_Unit_kind, (by show 1 < 1000; decide), ?_⟩
    refine ⟨_, rfl, _, rfl, p, _, dx, _, rfl, upd_same, T.cl_Unit, T.na_Unit_needs, (by show 2 < 1000; decide), ?_⟩
    refine ⟨_, rfl, _, rfl, p, _, dx, _, rfl, upd_same, T.cl_Unit, T.na_Unit_wants, (by show 3 < 1000; decide), ?_⟩
    refine ⟨_, rfl, _, rfl, p, _, dx, _, rfl, upd_same, T.cl_Unit, T.na_Unit_bars, (by show 4 < 1000; decide), ?_⟩
    refine ⟨_, rfl, _, rfl, p, _, dx, _, rfl, upd_same, T.cl_Unit, T.na_Unit_after, (by show 5 < 1000; decide), ?_⟩
    refine ⟨_, rfl, _, rfl, p, _, dx, _, rfl, upd_same, T.cl_Unit, T.na_Unit_opens, (by show 6 < 1000; decide), ?_⟩
    refine ⟨_, rfl, _, rfl, p, _, dx, _, rfl, upd_same, T.cl_Unit, T.na_Unit_rule, (by show 7 < 1000; decide), ?_⟩
    refine q _ upd_same fun c o h n => ?_
    rw [upd_ne n, upd_ne n, upd_ne n, upd_ne n, upd_ne n, upd_ne n, upd_ne n, upd_ne n]
    exact h
/-- the rule of a unit, or None -/
def RuleOpt (K : PySem.W.Frag) (H : Hp) : V → Option (Int × Int × Int × Int × Int) → Prop
  | v, none => v = .non
  | v, some (f, m, t, b, s) => ∃ r, v = .ref r ∧ RuleAt K H r f m t b s
theorem RuleOpt.same {H H' : Hp} {v : V} {o : Option (Int × Int × Int × Int × Int)} (h : RuleOpt K H v o) (s : Same H H') : RuleOpt K H' v o := by
  cases o with
  | none => exact h
  | some o =>
    obtain ⟨f, m, t, b, s'⟩ := o
    obtain ⟨p, e, hp⟩ := h
    exact ⟨p, e, hp.same s⟩
theorem RuleOpt.keep {H H' : Hp} {v : V} {o : Option (Int × Int × Int × Int × Int)} {q : Addr} (h : RuleOpt K H v o) (k : Kp q H H') (n : ∀ C dx fs, H q ≠ some (.ins C dx fs)) : RuleOpt K H' v o := by
  cases o with
  | none => exact h
  | some o =>
    obtain ⟨f, m, t, b, s'⟩ := o
    obtain ⟨p, e, dx, hp⟩ := h
    exact ⟨p, e, dx, k _ _ hp fun z => n _ _ _ (z ▸ hp)⟩
/-- a unit stands at a -/
def UnitAt (K : PySem.W.Frag) (H : Hp) (p : Addr) (w : Str) (u : UF) : Prop := ∃ (dx n x b a : Addr) (r : V), H p = some (.ins (He.ga K "Unit") dx (uFs (.str w) (.str u.kind) (.ref n) (.ref x) (.ref b) (.ref a) (optV u.opens) r)) ∧
  SqT K H n (u.needs.map V.str) ∧ SqT K H x (u.wants.map V.str) ∧ SqT K H b (u.bars.map V.str) ∧ SqT K H a (u.after.map V.str) ∧ RuleOpt K H r u.five
/-- the seven facts, whatever way their tuples stand -/
def FactS (K : PySem.W.Frag) (H : Hp) (v : V) (u : UF) : Prop := ∃ (t n x b a : Addr) (g : V), v = .ref t ∧ SqT K H t [.str u.kind, .ref n, .ref x, .ref b, .ref a, optV u.opens, g] ∧
  SqT K H n (u.needs.map V.str) ∧ SqT K H x (u.wants.map V.str) ∧ SqT K H b (u.bars.map V.str) ∧ SqT K H a (u.after.map V.str) ∧ FiveAt H g u.five
theorem FactAt.s {H : Hp} {v : V} {u : UF} (h : FactAt H v u) : FactS K H v u := by
  obtain ⟨t, n, x, b, a, g, e, h0, h1, h2, h3, h4, h5⟩ := h
  exact ⟨t, n, x, b, a, g, e, .of h0, .of h1, .of h2, .of h3, .of h4, h5⟩
def sp_law_unit (K : PySem.W.Frag) : Sp := fun vs H Q _ => ∃ (w : Str) (d : Addr) (v : V) (u : UF), vs = [.str w, .ref d] ∧ DGet H d (.str w) (some v) ∧ FactS K H v u ∧
  ∀ p H', H p = none → Same H H' → UnitAt K H' p w u → Q (.ref p) H'
theorem ok_law_unit (T : Txt K mg) : FnOk P w K mg base CX0 4 (He.fAd K ("_law_unit", none)) T.d_law_unit ["_law_word", "_law_facts_here"] (sp_law_unit K) := by
  refine T.F_law_unit.ok sc_law_unit (fun vs H Q E h => ?_) (fun cdv A outer s H vs Q E hr h => ?_)
  · obtain ⟨w, d, v, u, rfl, _⟩ := h
    rfl
  · obtain ⟨w, d, v, u, rfl, hd, hF, q⟩ := h
    refine ⟨_, PSs.nox (pss_cons (ps_asg (pe_dget (hu_of hr) (pv 1) (pv 0) (fun _ _ => rfl)) (pg_tup rfl (pgs_cons (pg_name (i := 2) sc_law_unit.nd rfl (Or.inl rfl)) (pgs_cons (pg_name (i := 3) sc_law_unit.nd rfl (Or.inl rfl)) (pgs_cons (pg_name (i := 4) sc_law_unit.nd rfl (Or.inl rfl)) (pgs_cons (pg_name (i := 5) sc_law_unit.nd rfl (Or.inl rfl)) (pgs_cons (pg_name (i := 6) sc_law_unit.nd rfl (Or.inl rfl)) (pgs_cons (pg_name (i := 7) sc_law_unit.nd rfl (Or.inl rfl)) (pgs_cons (pg_name (i := 8) sc_law_unit.nd rfl (Or.inl rfl)) pgs_nil)))))))))
      (pss_cons (ps_set (i := 9) sc_law_unit.nd rfl (Or.inl rfl) (pe_mid (pe_ifExp (pt_cmpR op_isN (pv 8) pe_non (nomark _)) pe_non (pe_call (ok_law_rule T) (hr.mono (by decide)) (by rfl) T.m_law_rule T.F_law_rule.kp T.b_law_rule .nil pass0 (pa_cons (pv 8) pa_nil)))))
      (pss_one (ps_ret (pe_makeK T.mk_Unit (ok_Unit_init T) (hr.mono (by decide)) (by rfl) T.m_Unit T.kb_Unit_init_2_kind_needs_wants_bars_after_opens_rule.choose_spec pass0 (pa_cons (pv 0) pa_nil) (pk_cons (pv 2) (pk_cons (pv 3) (pk_cons (pv 4) (pk_cons (pv 5) (pk_cons (pv 6) (pk_cons (pv 7) (pk_cons (pv 9) pk_nil)))))))))))), ?_⟩
    obtain ⟨t, n, x, b, a, g, rfl, wt, wn, wx, wb, wa, hg⟩ := hF
    refine ⟨_, rfl, _, rfl, d, _, rfl, hd, t, _, rfl, wt, rfl, _, _, rfl, _, _, rfl, _, _, rfl, _, _, rfl, _, _, rfl, _, _, rfl, _, _, rfl, rfl, ?_⟩
    refine ⟨fun v H' => Same H H' ∧ RuleOpt K H' v u.five, ?_, ?_⟩
    · refine ⟨_, rfl, rfl, _, rfl, ?_⟩
      cases h5 : u.five with
      | none =>
        rw [h5] at hg
        cases (show g = .non from hg)
        exact iteYd rfl ⟨Same.refl _, rfl⟩
      | some o =>
        obtain ⟨f, m, tp, br, sn⟩ := o
        rw [h5] at hg
        obtain ⟨v5, rfl, w5, F⟩ := hg
        refine iteNd (fun z => nomatch z) ⟨_, rfl, v5, f, m, tp, br, sn, rfl, SqT.of w5, fun r H' nr s' hr => ⟨s', r, rfl, hr⟩⟩
    rintro rv H1 ⟨s1, hr⟩
    refine ⟨_, rfl, _, rfl, _, rfl, _, rfl, _, rfl, _, rfl, _, rfl, _, rfl, rfl, rfl, fun p dx np nd ne => ?_⟩
    refine ⟨p, dx, _, _, _, _, _, _, _, _, rfl, upd_same, fun H' wp kp => ⟨rfl, ?_⟩⟩
    have s2 : Same H1 H' := Same.made np nd fun b o e n => kp b o e n
    have s3 := s1.trans s2
    exact q p H' (s1.free np) s3 ⟨dx, n, x, b, a, rv, wp, tup_same s3 wn, tup_same s3 wx, tup_same s3 wb, tup_same s3 wa, RuleOpt.same hr s2⟩
theorem UnitAt.same {H H' : Hp} {p : Addr} {w : Str} {u : UF} (h : UnitAt K H p w u) (s : Same H H') : UnitAt K H' p w u := by
  obtain ⟨dx, n, x, b, a, r, h0, h1, h2, h3, h4, h5⟩ := h
  exact ⟨dx, n, x, b, a, r, s _ _ h0, tup_same s h1, tup_same s h2, tup_same s h3, tup_same s h4, h5.same s⟩
theorem UnitAt.keep {H H' : Hp} {p q : Addr} {w : Str} {u : UF} {n : Nat} (h : UnitAt K H p w u) (k : Kp q H H') (B : Bag n H q) : UnitAt K H' p w u := by
  obtain ⟨_, _, _, hq, _⟩ := B.ex
  have nt := NotTp.lst hq
  obtain ⟨dx, n, x, b, a, r, h0, h1, h2, h3, h4, h5⟩ := h
  exact ⟨dx, n, x, b, a, r, k _ _ h0 (fun e => by rw [e, hq] at h0; cases h0), k.tup nt h1, k.tup nt h2, k.tup nt h3, k.tup nt h4, h5.keep k fun C dx fs e => by rw [hq] at e; cases e⟩

-- SPLIT
/-! ### the shelf -/
/-- no instance with fields -/
def NotIns (H : Hp) (q : Addr) : Prop := ∀ C dx f fs, H q ≠ some (.ins C dx (f :: fs))
theorem NotIns.lst {H : Hp} {q : Addr} {xs : List V} (h : H q = some (.lst xs)) : NotIns H q := fun C dx f fs e => by rw [h] at e; cases e
theorem NotIns.dK {H : Hp} {q : Addr} {xs : List (Key × V)} (h : H q = some (.dK xs)) : NotIns H q := fun C dx f fs e => by rw [h] at e; cases e
theorem NotIns.new {H : Hp} {q C dx : Addr} (h : H q = some (.ins C dx [])) : NotIns H q := fun C' dx' f fs e => by rw [h] at e; cases e
theorem RuleOpt.keepN {H H' : Hp} {v : V} {o : Option (Int × Int × Int × Int × Int)} {q : Addr} (h : RuleOpt K H v o) (k : Kp q H H') (n : NotIns H q) : RuleOpt K H' v o := by
  cases o with
  | none => exact h
  | some o =>
    obtain ⟨f, m, t, b, s'⟩ := o
    obtain ⟨p, e, dx, hp⟩ := h
    exact ⟨p, e, dx, k _ _ hp fun z => n _ _ _ _ (z ▸ hp)⟩
theorem UnitAt.keepN {H H' : Hp} {p q : Addr} {w : Str} {u : UF} (h : UnitAt K H p w u) (k : Kp q H H') (nt : NotTp H q) (ni : NotIns H q) : UnitAt K H' p w u := by
  obtain ⟨dx, n, x, b, a, r, h0, h1, h2, h3, h4, h5⟩ := h
  exact ⟨dx, n, x, b, a, r, k _ _ h0 (fun e => ni _ _ _ _ (e ▸ h0)), k.tup nt h1, k.tup nt h2, k.tup nt h3, k.tup nt h4, h5.keepN k ni⟩
/-- a list of units -/
inductive ULs (K : PySem.W.Frag) (H : Hp) : List V → List (Str × UF) → Prop
  | nil : ULs K H [] []
  | cons {a : Addr} {w : Str} {u : UF} {xs : List V} {us : List (Str × UF)} (e : UnitAt K H a w u) (h : ULs K H xs us) : ULs K H (.ref a :: xs) ((w, u) :: us)
theorem ULs.same {H H' : Hp} {xs : List V} {us : List (Str × UF)} (h : ULs K H xs us) (s : Same H H') : ULs K H' xs us := by
  induction h with
  | nil => exact .nil
  | cons e _ ih => exact .cons (e.same s) ih
theorem ULs.keepN {H H' : Hp} {q : Addr} {xs : List V} {us : List (Str × UF)} (h : ULs K H xs us) (k : Kp q H H') (nt : NotTp H q) (ni : NotIns H q) : ULs K H' xs us := by
  induction h with
  | nil => exact .nil
  | cons e _ ih => exact .cons (e.keepN k nt ni) ih
theorem ULs.len {H : Hp} {xs : List V} {us : List (Str × UF)} (h : ULs K H xs us) : xs.length = us.length := by
  induction h with
  | nil => rfl
  | cons _ _ ih => rw [List.length_cons, List.length_cons, ih]
theorem ULs.get {H : Hp} {xs : List V} {us : List (Str × UF)} (h : ULs K H xs us) {i : Nat} {x : V} (e : xs[i]? = some x) : ∃ a w u, x = .ref a ∧ us[i]? = some (w, u) ∧ UnitAt K H a w u := by
  induction h generalizing i with
  | nil => simp at e
  | @cons a w u _ _ r _ ih =>
    cases i with
    | zero =>
      cases e
      exact ⟨a, w, u, rfl, rfl, r⟩
    | succ i => exact ih e
theorem ULs.app {H : Hp} {xs ys : List V} {us vs : List (Str × UF)} (h : ULs K H xs us) (g : ULs K H ys vs) : ULs K H (xs ++ ys) (us ++ vs) := by
  induction h with
  | nil => exact g
  | cons e _ ih => exact .cons e ih
abbrev UTab (K : PySem.W.Frag) (H : Hp) : List (Key × V) → List (Str × UF) → Prop := Tab fun v w u => ∃ a, v = .ref a ∧ UnitAt K H a w u
def ShelfAt (K : PySem.W.Frag) (H : Hp) (p : Addr) (us : List (Str × UF)) : Prop := ∃ (dx d : Addr) (kvs : List (Key × V)), H p = some (.ins (He.ga K "Shelf") dx [("by_name", .ref d)]) ∧ H d = some (.dK kvs) ∧ UTab K H kvs us
theorem ShelfAt.same {H H' : Hp} {p : Addr} {us : List (Str × UF)} (h : ShelfAt K H p us) (s : Same H H') : ShelfAt K H' p us := by
  obtain ⟨dx, d, kvs, h1, h2, h3⟩ := h
  exact ⟨dx, d, kvs, s _ _ h1, s _ _ h2, h3.imp fun v w u ⟨a, e, r⟩ => ⟨a, e, r.same s⟩⟩
theorem ShelfAt.keepL {H H' : Hp} {p q : Addr} {us : List (Str × UF)} {xs : List V} (h : ShelfAt K H p us) (k : Kp q H H') (hq : H q = some (.lst xs)) : ShelfAt K H' p us := by
  obtain ⟨dx, d, kvs, h1, h2, h3⟩ := h
  refine ⟨dx, d, kvs, k _ _ h1 (fun e => by rw [e, hq] at h1; cases h1), k _ _ h2 (fun e => by rw [e, hq] at h2; cases h2), h3.imp fun v w u ⟨a, e, r⟩ => ⟨a, e, r.keepN k (.lst hq) (.lst hq)⟩⟩
theorem ShelfAt.keepB {H H' : Hp} {p q : Addr} {us : List (Str × UF)} {n : Nat} (h : ShelfAt K H p us) (k : Kp q H H') (B : Bag n H q) : ShelfAt K H' p us := by
  obtain ⟨_, _, _, hq, _⟩ := B.ex
  exact h.keepL k hq
/-- names unlike, at most sixteen -/
structure Nms (us : List (Str × UF)) : Prop where
  nd : (us.map (·.1)).Nodup
  few : us.length ≤ 16
  nm : ∀ x ∈ us.map (·.1), Nm x
theorem Nms.len {us : List (Str × UF)} (n : Nms us) : (us.map (·.1)).length ≤ 16 := by rw [List.length_map]; exact n.few
def sp_Shelf_init (K : PySem.W.Frag) : Sp := fun vs H Q _ => ∃ (p dx l : Addr) (xs : List V) (us : List (Str × UF)), vs = [.ref p, .ref l] ∧ H p = some (.ins (He.ga K "Shelf") dx []) ∧ (SqL K H l xs ∨ SqT K H l xs) ∧ ULs K H xs us ∧ Nms us ∧
  ∀ H', ShelfAt K H' p us → Kp p H H' → Q .non H'
theorem ok_Shelf_init (T : Txt K mg) : FnOk P w K mg base CX0 1 (He.fAd K ("Shelf", some "__init__")) T.d_Shelf_init ["self", "units"] (sp_Shelf_init K) := by
  refine T.F_Shelf_init.ok sc_Shelf_init (fun vs H Q E h => ?_) (fun cdv A outer s H vs Q E hr h => ?_)
  · obtain ⟨p, dx, l, xs, us, rfl, _⟩ := h
    rfl
  · obtain ⟨p, dx, l, xs, us, rfl, hp, hl, hU, hN, q⟩ := h
    refine ⟨_, PSs.nox (pss_cons (ps_set (i := 2) sc_Shelf_init.nd rfl (Or.inl rfl) pe_dnewK)
      (pss_cons (ps_for PassesOwn.never rfl (UP.pi_or (pi_list (pv 1)) (pi_tup (pv 1))) (pg_name (i := 3) sc_Shelf_init.nd rfl (Or.inl rfl))
      (pss_cons (ps_if (PW.pt (pw_or (pt_cmp (pc_din (hu_of hr) (pe_fld (pv 3) rfl) (pv 2))) (pw_or1 (pt_cmpR op_eq (pe_callB (id := "len")  call_lenD (by rfl) T.n_len (by decide +kernel) (pa_cons (pv 2) pa_nil)) (pe_glob (v := .int 16) (by rfl) T.c_MOST.choose_spec ⟨_, rfl⟩) (nomark _)))))
      (pss_one ps_never)
      pss_nil)
      (pss_one (ps_dput (hu_of hr) (pv 2) (pe_fld (pv 3) rfl) (pv 3) rfl))))
      (pss_one (ps_fld (pv 0) (pv 2) rfl)))), ?_⟩
    refine fun d nd => ?_
    generalize hE1 : upd H d _ = H1
    have wd := new_at hE1
    have s1 := new_same hE1 nd
    have npd : p ≠ d := ne_some hp nd
    rcases hl with hl | hl
    · refine .inl ⟨_, rfl, l, rfl, ⟨_, SqL.ext hl s1⟩, for_list (xs := xs) (fun i σ H' => Same H H' ∧ (∃ kvs, H' d = some (.dK kvs) ∧ UTab K H' kvs (us.take i)) ∧ ∃ y : Option V, σ = [some (.ref p), some (.ref l), some (.ref d), y])
        ⟨s1, ⟨[], wd, .nil⟩, none, rfl⟩ (fun i σ H' _ h => SqL.ext hl h.1) ?_ ?_⟩
      · rintro i x σ H2 hi ⟨s2, ⟨kvs, wd2, ht⟩, y, rfl⟩
        obtain ⟨a, w, u, rfl, hu, hA⟩ := hU.get hi
        obtain ⟨dxu, n1, n2, n3, n4, r, ha, _⟩ := id (hA.same s2)
        have hlt : i < us.length := by
          rw [List.getElem?_eq_some_iff] at hu
          exact hu.1
        have hfree : w ∉ (us.take i).map (·.1) := fun hm => by
          obtain ⟨j, hj, e⟩ := List.getElem_of_mem hm
          rw [List.length_map, List.length_take] at hj
          have hn := hN.nd
          have e1 : (us.map (·.1))[i]? = some w := by rw [List.getElem?_map, hu]; rfl
          have e2 : (us.map (·.1))[j]? = some w := by
            rw [List.getElem?_map, List.getElem?_eq_getElem (by omega)]
            rw [List.getElem_map, List.getElem_take] at e
            rw [← e]
            rfl
          have := (List.getElem?_inj (by rw [List.length_map]; omega) hn).mp (e2.trans e1.symm)
          omega
        have few := hN.few
        have hkl : kvs.length = i := by
          rw [ht.len, List.length_take]
          omega
        have hnone := ht.free hfree
        -- if unit.name in by_name or len(by_name) == MOST
        refine ⟨_, rfl, a, _, dxu, _, _, rfl, ha, T.cl_Unit, T.na_Unit_name, rfl, _, rfl, d, _, rfl, DGet.k (k := Sum.inr w) wd2, ?_⟩
        rw [hnone]
        refine ⟨_, rfl, iteF ?_⟩
        refine ⟨_, rfl, d, kvs, rfl, wd2, rfl, _, rfl, ?_⟩
        rw [decide_eq_false (show ¬ V.int (kvs.length : Int) = V.int 16 from fun z => by injection z with z; omega)]
        refine iteF ?_
        -- by_name[unit.name] = unit
        refine ⟨_, rfl, _, rfl, _, rfl, a, _, dxu, _, _, rfl, ha, T.cl_Unit, T.na_Unit_name, rfl, d, _, rfl, DPut.k (k := Sum.inr w) wd2 (small1000 (by omega)), ?_⟩
        rw [putK_new _ hnone]
        generalize hE3 : upd H2 d _ = H3
        have wd3 := new_at hE3
        have m3 := mut_keep hE3
        refine ⟨Same.own s2 m3 nd, ⟨_, wd3, ?_⟩, _, rfl⟩
        rw [take_snoc hu]
        exact (ht.imp fun v w u ⟨a, e, r⟩ => ⟨a, e, r.keepN m3 (.dK wd2) (.dK wd2)⟩).app (.cons ⟨a, rfl, (hA.same s2).keepN m3 (.dK wd2) (.dK wd2)⟩ .nil)
      · rintro σ H2 ⟨s2, ⟨kvs, wd2, ht⟩, y, rfl⟩
        rw [hU.len, List.take_length] at ht
        have hp2 := s2 _ _ hp
        refine ⟨_, rfl, _, rfl, p, _, dx, [], rfl, hp2, T.cl_Shelf, T.na_Shelf_by_name, (by show 0 < 1000; decide), ?_⟩
        generalize hE3 : upd H2 p _ = H3
        have m3 := mut_keep hE3
        exact q H3 ⟨dx, d, kvs, new_at hE3, m3 _ _ wd2 npd.symm, ht.imp fun v w u ⟨a, e, r⟩ => ⟨a, e, r.keepN m3 (.ins hp2) (.new hp2)⟩⟩ ((Kp.of s2).trans m3)
    · refine .inr ⟨_, rfl, l, rfl, ⟨_, tup_same s1 hl⟩, for_tup (xs := xs) (fun i σ H' => Same H H' ∧ (∃ kvs, H' d = some (.dK kvs) ∧ UTab K H' kvs (us.take i)) ∧ ∃ y : Option V, σ = [some (.ref p), some (.ref l), some (.ref d), y])
        ⟨s1, ⟨[], wd, .nil⟩, none, rfl⟩ (fun i σ H' _ h => tup_same h.1 hl) ?_ ?_⟩
      · rintro i x σ H2 hi ⟨s2, ⟨kvs, wd2, ht⟩, y, rfl⟩
        obtain ⟨a, w, u, rfl, hu, hA⟩ := hU.get hi
        obtain ⟨dxu, n1, n2, n3, n4, r, ha, _⟩ := id (hA.same s2)
        have hlt : i < us.length := by
          rw [List.getElem?_eq_some_iff] at hu
          exact hu.1
        have hfree : w ∉ (us.take i).map (·.1) := fun hm => by
          obtain ⟨j, hj, e⟩ := List.getElem_of_mem hm
          rw [List.length_map, List.length_take] at hj
          have hn := hN.nd
          have e1 : (us.map (·.1))[i]? = some w := by rw [List.getElem?_map, hu]; rfl
          have e2 : (us.map (·.1))[j]? = some w := by
            rw [List.getElem?_map, List.getElem?_eq_getElem (by omega)]
            rw [List.getElem_map, List.getElem_take] at e
            rw [← e]
            rfl
          have := (List.getElem?_inj (by rw [List.length_map]; omega) hn).mp (e2.trans e1.symm)
          omega
        have few := hN.few
        have hkl : kvs.length = i := by
          rw [ht.len, List.length_take]
          omega
        have hnone := ht.free hfree
        -- if unit.name in by_name or len(by_name) == MOST
        refine ⟨_, rfl, a, _, dxu, _, _, rfl, ha, T.cl_Unit, T.na_Unit_name, rfl, _, rfl, d, _, rfl, DGet.k (k := Sum.inr w) wd2, ?_⟩
        rw [hnone]
        refine ⟨_, rfl, iteF ?_⟩
        refine ⟨_, rfl, d, kvs, rfl, wd2, rfl, _, rfl, ?_⟩
        rw [decide_eq_false (show ¬ V.int (kvs.length : Int) = V.int 16 from fun z => by injection z with z; omega)]
        refine iteF ?_
        -- by_name[unit.name] = unit
        refine ⟨_, rfl, _, rfl, _, rfl, a, _, dxu, _, _, rfl, ha, T.cl_Unit, T.na_Unit_name, rfl, d, _, rfl, DPut.k (k := Sum.inr w) wd2 (small1000 (by omega)), ?_⟩
        rw [putK_new _ hnone]
        generalize hE3 : upd H2 d _ = H3
        have wd3 := new_at hE3
        have m3 := mut_keep hE3
        refine ⟨Same.own s2 m3 nd, ⟨_, wd3, ?_⟩, _, rfl⟩
        rw [take_snoc hu]
        exact (ht.imp fun v w u ⟨a, e, r⟩ => ⟨a, e, r.keepN m3 (.dK wd2) (.dK wd2)⟩).app (.cons ⟨a, rfl, (hA.same s2).keepN m3 (.dK wd2) (.dK wd2)⟩ .nil)
      · rintro σ H2 ⟨s2, ⟨kvs, wd2, ht⟩, y, rfl⟩
        rw [hU.len, List.take_length] at ht
        have hp2 := s2 _ _ hp
        refine ⟨_, rfl, _, rfl, p, _, dx, [], rfl, hp2, T.cl_Shelf, T.na_Shelf_by_name, (by show 0 < 1000; decide), ?_⟩
        generalize hE3 : upd H2 p _ = H3
        have m3 := mut_keep hE3
        exact q H3 ⟨dx, d, kvs, new_at hE3, m3 _ _ wd2 npd.symm, ht.imp fun v w u ⟨a, e, r⟩ => ⟨a, e, r.keepN m3 (.ins hp2) (.new hp2)⟩⟩ ((Kp.of s2).trans m3)
def sp_Shelf_names (K : PySem.W.Frag) : Sp := fun vs H Q _ => ∃ (p : Addr) (us : List (Str × UF)), vs = [.ref p] ∧ ShelfAt K H p us ∧ Nms us ∧
  ∀ l H', H l = none → Same H H' → H' l = some (.lst ((srt (us.map (·.1))).map V.str)) → Q (.ref l) H'
theorem ok_Shelf_names (T : Txt K mg) : FnOk P w K mg base CX0 1 (He.fAd K ("Shelf", some "names")) T.d_Shelf_names ["self"] (sp_Shelf_names K) := by
  refine T.F_Shelf_names.ok sc_Shelf_names (fun vs H Q E h => ?_) (fun cdv A outer s H vs Q E hr h => ?_)
  · obtain ⟨p, us, rfl, _⟩ := h
    rfl
  · obtain ⟨p, us, rfl, hS, hN, q⟩ := h
    refine ⟨_, PSs.nox (pss_one (ps_ret (pe_callB (id := "sorted")  (call_sortedD rfl) (by rfl) T.n_sorted (by decide +kernel) (pa_cons (pe_fld (pv 0) rfl) pa_nil)))), ?_⟩
    obtain ⟨dx, d, kvs, hp, hd, ht⟩ := id hS
    have few := hN.len
    refine ⟨_, rfl, p, _, dx, _, _, rfl, hp, T.cl_Shelf, T.na_Shelf_by_name, rfl, d, kvs, us.map (·.1), rfl, .inl hd, ht.keys, by omega, fun ys l hy hs nl => ?_⟩
    obtain rfl := srt_of hy hs
    exact q l _ nl (same_upd nl) upd_same
def sp_Shelf_has (K : PySem.W.Frag) : Sp := fun vs H Q _ => ∃ (p : Addr) (w : Str) (us : List (Str × UF)), vs = [.ref p, .str w] ∧ ShelfAt K H p us ∧ Nms us ∧ Q (.bl (decide (w ∈ us.map (·.1)))) H
theorem Nms.val {R : V → Str → UF → Prop} {kvs : List (Key × V)} {us : List (Str × UF)} (n : Nms us) (h : Tab R kvs us) (w : Str) : (valV kvs (Sum.inr w : Key)).isSome = decide (w ∈ us.map (·.1)) := by
  by_cases c : w ∈ us.map (·.1)
  · obtain ⟨p, hp, rfl⟩ := List.mem_map.mp c
    obtain ⟨v, hv, _⟩ := h.get n.nd p hp
    rw [hv, decide_eq_true c]
    rfl
  · rw [h.free c, decide_eq_false c]
    rfl
theorem ok_Shelf_has (T : Txt K mg) : FnOk P w K mg base CX0 1 (He.fAd K ("Shelf", some "has")) T.d_Shelf_has ["self", "name"] (sp_Shelf_has K) := by
  refine T.F_Shelf_has.ok sc_Shelf_has (fun vs H Q E h => ?_) (fun cdv A outer s H vs Q E hr h => ?_)
  · obtain ⟨p, w, us, rfl, _⟩ := h
    rfl
  · obtain ⟨p, w, us, rfl, hS, hN, q⟩ := h
    refine ⟨_, PSs.nox (pss_one (ps_ret (pe_mid (pe_and (pe_callB (id := "isinstance")  call_isi (by rfl) T.n_isinstance (by decide +kernel) (pa_cons (pv 1) (pa_cons (pe_bltn (v := .ty "str") (u := .type "str") (by rfl) T.n_str (by decide +kernel) rfl) pa_nil))) (pe_one (pe_cmp (pc_din (hu_of hr) (pv 1) (pe_fld (pv 0) rfl)))))))), ?_⟩
    obtain ⟨dx, d, kvs, hp, hd, ht⟩ := id hS
    refine ⟨fun v H' => H' = H ∧ v = .bl (decide (w ∈ us.map (·.1))), ?_, ?_⟩
    · refine ⟨_, rfl, _, _, _, _, true, rfl, .ty "str", .base (.str _), kit_ty (by decide +kernel), true, rfl, iteT ?_⟩
      refine ⟨_, rfl, _, rfl, p, _, dx, _, _, rfl, hp, T.cl_Shelf, T.na_Shelf_by_name, rfl, d, _, rfl, DGet.k (k := Sum.inr w) hd, rfl, ?_⟩
      rw [hN.val ht w]
    · rintro v H' ⟨rfl, rfl⟩
      exact q
def sp_Shelf_unit (K : PySem.W.Frag) : Sp := fun vs H Q _ => ∃ (p : Addr) (w : Str) (us : List (Str × UF)), vs = [.ref p, .str w] ∧ ShelfAt K H p us ∧ Nms us ∧ w ∈ us.map (·.1) ∧
  ∀ a u, (w, u) ∈ us → UnitAt K H a w u → Q (.ref a) H
theorem ok_Shelf_unit (T : Txt K mg) : FnOk P w K mg base CX0 2 (He.fAd K ("Shelf", some "unit")) T.d_Shelf_unit ["self", "name"] (sp_Shelf_unit K) := by
  refine T.F_Shelf_unit.ok sc_Shelf_unit (fun vs H Q E h => ?_) (fun cdv A outer s H vs Q E hr h => ?_)
  · obtain ⟨p, w, us, rfl, _⟩ := h
    rfl
  · obtain ⟨p, w, us, rfl, hS, hN, hw, q⟩ := h
    refine ⟨_, PSs.nox (pss_cons (ps_if (pt_not (pt_val (pe_meth (pv 0) T.cl_Shelf T.me_Shelf_has (ok_Shelf_has T) (hr.mono (by decide)) T.b_Shelf_has .nil pass0 (pa_cons (pv 1) pa_nil))))
      (pss_one ps_never)
      pss_nil)
      (pss_one (ps_ret (pe_dget (hu_of hr) (pe_fld (pv 0) rfl) (pv 1) (fun _ _ => rfl))))), ?_⟩
    obtain ⟨dx, d, kvs, hp, hd, ht⟩ := id hS
    obtain ⟨u, hu⟩ : ∃ u, (w, u) ∈ us := by
      obtain ⟨r, hr, rfl⟩ := List.mem_map.mp hw
      exact ⟨r.2, hr⟩
    obtain ⟨v, hv, a, rfl, hA⟩ := ht.get hN.nd (w, u) hu
    refine ⟨_, rfl, p, dx, _, rfl, hp, rfl, _, rfl, p, w, us, rfl, hS, hN, ?_⟩
    rw [decide_eq_true hw]
    refine ⟨true, rfl, iteF ?_⟩
    refine ⟨_, rfl, p, _, dx, _, _, rfl, hp, T.cl_Shelf, T.na_Shelf_by_name, rfl, _, rfl, d, .ref a, rfl, by rw [← hv]; exact DGet.k (k := Sum.inr w) hd, ?_⟩
    exact q a u hu hA
def sp_Shelf_waited (K : PySem.W.Frag) : Sp := fun vs H Q _ => ∃ (p : Addr) (w : Str) (us : List (Str × UF)), vs = [.ref p, .str w] ∧ ShelfAt K H p us ∧ Nms us ∧ w ∈ us.map (·.1) ∧
  ∀ l H', H l = none → Same H H' → H' l = some (.lst ((wt us w).map V.str)) → Q (.ref l) H'
theorem ok_Shelf_waited (T : Txt K mg) : FnOk P w K mg base CX0 3 (He.fAd K ("Shelf", some "waited")) T.d_Shelf_waited ["self", "name"] (sp_Shelf_waited K) := by
  refine T.F_Shelf_waited.ok sc_Shelf_waited (fun vs H Q E h => ?_) (fun cdv A outer s H vs Q E hr h => ?_)
  · obtain ⟨p, w, us, rfl, _⟩ := h
    rfl
  · obtain ⟨p, w, us, rfl, hS, hN, hw, q⟩ := h
    refine ⟨_, PSs.nox (pss_cons (ps_set (i := 2) sc_Shelf_waited.nd rfl (Or.inr rfl) (pe_meth (pv 0) T.cl_Shelf T.me_Shelf_unit (ok_Shelf_unit T) (hr.mono (by decide)) T.b_Shelf_unit .nil pass0 (pa_cons (pv 1) pa_nil)))
      (pss_one (ps_ret (pe_lc (own := [("other", 3)]) (by rfl) sc_Shelf_waited.nd (pi_list (pe_meth0 (pv 0) T.cl_Shelf T.me_Shelf_names (ok_Shelf_names T) (hr.mono (by decide)) T.b_Shelf_names .nil pass0)) (blkOk_by (own := [("other", 3)]) (N := N_Shelf_waited) (sc := defScope s_Shelf_waited) (by decide +kernel)) (fun _ _ _ _ _ => (pg_name (i := 3) sc_Shelf_waited.nd rfl (Or.inl rfl))) (fun _ _ _ _ _ => by exact (pts_one (PW.pt (pw_or (pt_cmpR (r := rIn K false) op_in_seq (pv 3) (UP.pe_fldK (K := K) (by rfl) (pv 2) (by rfl)) (by rfl)) (pw_or (pt_cmpR (r := rIn K false) op_in_seq (pv 3) (UP.pe_fldK (K := K) (by rfl) (pv 2) (by rfl)) (by rfl)) (pw_or1 (pt_cmpR op_eq (UP.pe_fldK (K := K) (by rfl) (pe_dget (hu_of hr) (UP.pe_fldK (K := K) (by rfl) (pv 0) (by rfl)) (pv 3) (fun _ _ => rfl)) (by rfl)) (pv 1) (nomark _)))))))) (fun _ _ _ _ _ => (pv 3)))))), ?_⟩
    obtain ⟨dx, d, kvs, hp, hd, ht⟩ := id hS
    refine ⟨_, rfl, p, dx, _, rfl, hp, rfl, _, rfl, p, w, us, rfl, hS, hN, hw, fun a u hu hA => ?_⟩
    have hfu : fu us w = some u := fu_some hN.nd hu
    obtain ⟨dxu, n1, n2, n3, n4, r, ha, hn1, hn2, hn3, hn4, _⟩ := id hA
    refine ⟨_, rfl, p, dx, _, rfl, hp, rfl, p, us, rfl, hS, hN, fun l H1 nl s1 wl => ?_⟩
    refine ⟨l, rfl, ⟨_, SqL.of wl⟩, fun D nD => ?_⟩
    refine lc_list (xs := (srt (us.map (·.1))).map V.str) (fun i H' => Same H1 H' ∧ H' D = some (.lst ((((srt (us.map (·.1))).take i).filter (waitsB us w)).map V.str))) ⟨same_upd nD, upd_same⟩ (fun i H' _ h => SqL.of (h.1 _ _ wl)) ?_ ?_
    · rintro i x H2 hi ⟨s2, w2⟩
      obtain ⟨o, ho, rfl⟩ := map_str_get hi
      have hom : o ∈ us.map (·.1) := srt_mem.mp (List.mem_of_getElem? ho)
      obtain ⟨v, hfo, hv⟩ := fu_of hom hN.nd
      have wb : waitsB us w o = (decide (o ∈ u.needs) || (decide (o ∈ u.after) || decide (v.opens = some w))) := by
        unfold waitsB
        rw [hfu, hfo]
      have s12 := s1.trans s2
      have few := hN.len
      have hlen : ((((srt (us.map (·.1))).take i).filter (waitsB us w)).map V.str).length < sizeLine := by
        rw [List.length_map]
        refine Nat.lt_of_le_of_lt (List.length_filter_le _ _) (Nat.lt_of_le_of_lt (List.length_take_le' ..) (small1000 ?_))
        rw [srt_len]
        omega
      have yes : waitsB us w o = true → Same H1 (upd H2 D (.lst (((((srt (us.map (·.1))).take i).filter (waitsB us w)).map V.str) ++ [.str o]))) ∧ (upd H2 D (.lst (((((srt (us.map (·.1))).take i).filter (waitsB us w)).map V.str) ++ [.str o]))) D = some (.lst ((((srt (us.map (·.1))).take (i + 1)).filter (waitsB us w)).map V.str)) := fun c => by
        refine ⟨Same.own (q := D) s2 (mut_keep rfl) nD, ?_⟩
        rw [upd_same, take_filter_snoc _ ho, if_pos c, List.map_append]
        rfl
      have no : waitsB us w o = false → Same H1 H2 ∧ H2 D = some (.lst ((((srt (us.map (·.1))).take (i + 1)).filter (waitsB us w)).map V.str)) := fun c => by
        refine ⟨s2, ?_⟩
        rw [take_filter_snoc _ ho, if_neg (by rw [c]; exact Bool.false_ne_true), List.append_nil]
        exact w2
      refine ⟨rfl, _, rfl, _, rfl, a, _, dxu, _, _, rfl, s12 _ _ ha, T.cl_Unit, T.na_Unit_needs, rfl, n1, _, rfl, .inr (tup_same s12 hn1), rfl, strs_flat _, _, rfl, ?_⟩
      rw [inV_str]
      by_cases c1 : o ∈ u.needs
      · rw [decide_eq_true c1] at wb ⊢
        exact iteT (iteT ⟨_, rfl, _, w2, hlen, yes (by rw [wb]; rfl)⟩)
      rw [decide_eq_false c1] at wb ⊢
      refine iteF ⟨_, rfl, _, rfl, a, _, dxu, _, _, rfl, s12 _ _ ha, T.cl_Unit, T.na_Unit_after, rfl, n4, _, rfl, .inr (tup_same s12 hn4), rfl, strs_flat _, _, rfl, ?_⟩
      rw [inV_str]
      by_cases c2 : o ∈ u.after
      · rw [decide_eq_true c2] at wb ⊢
        exact iteT (iteT ⟨_, rfl, _, w2, hlen, yes (by rw [wb]; rfl)⟩)
      rw [decide_eq_false c2] at wb ⊢
      obtain ⟨ov, hov, b, rfl, hB⟩ := ht.get hN.nd (o, v) hv
      obtain ⟨dxv, m1, m2, m3, m4, r2, hb, _⟩ := id hB
      refine iteF ⟨_, rfl, p, _, dx, _, _, rfl, s12 _ _ hp, T.cl_Shelf, T.na_Shelf_by_name, rfl, _, rfl, d, .ref b, rfl, by rw [← hov]; exact DGet.k (k := Sum.inr o) (s12 _ _ hd), b, _, dxv, _, _, rfl, s12 _ _ hb, T.cl_Unit, T.na_Unit_opens, rfl, _, rfl, scal_optV v.opens (some w), _, rfl, ?_⟩
      rw [show decide (optV v.opens = V.str w) = decide (v.opens = some w) from dec_optV (y := some w)]
      by_cases c3 : v.opens = some w
      · rw [decide_eq_true c3] at wb ⊢
        exact iteT ⟨_, rfl, _, w2, hlen, yes (by rw [wb]; rfl)⟩
      · rw [decide_eq_false c3] at wb ⊢
        exact iteF (no (by rw [wb]; rfl))
    · rintro H2 ⟨s2, w2⟩
      rw [List.length_map, List.take_length] at w2
      exact q D H2 (s1.free nD) (s1.trans s2) w2

-- SPLIT
/-! ### the facts as a table, the units of it -/
abbrev FTab (K : PySem.W.Frag) (H : Hp) : List (Key × V) → List (Str × UF) → Prop := Tab fun v _ u => FactS K H v u
theorem FactS.same {H H' : Hp} {v : V} {u : UF} (h : FactS K H v u) (s : Same H H') : FactS K H' v u := by
  obtain ⟨t, n, x, b, a, g, e, h0, h1, h2, h3, h4, h5⟩ := h
  exact ⟨t, n, x, b, a, g, e, tup_same s h0, tup_same s h1, tup_same s h2, tup_same s h3, tup_same s h4, h5.same s⟩
theorem FactS.keep {H H' : Hp} {q : Addr} {v : V} {u : UF} (h : FactS K H v u) (k : Kp q H H') (n : NotTp H q) : FactS K H' v u := by
  obtain ⟨t, n1, x, b, a, g, e, h0, h1, h2, h3, h4, h5⟩ := h
  exact ⟨t, n1, x, b, a, g, e, k.tup n h0, k.tup n h1, k.tup n h2, k.tup n h3, k.tup n h4, h5.keep k fun xs => (n xs).1⟩
theorem FactsAt.tab {H : Hp} {kvs : List (Key × V)} {us : List (Str × UF)} (h : FactsAt H kvs us) : FTab K H kvs us := by
  induction h with
  | nil => exact .nil
  | snoc _ e ih => exact ih.app (.cons (FactAt.s e) .nil)
theorem FTab.same {H H' : Hp} {kvs : List (Key × V)} {us : List (Str × UF)} (h : FTab K H kvs us) (s : Same H H') : FTab K H' kvs us := h.imp fun _ _ _ r => FactS.same r s
theorem FTab.keep {H H' : Hp} {q : Addr} {kvs : List (Key × V)} {us : List (Str × UF)} (h : FTab K H kvs us) (k : Kp q H H') (n : NotTp H q) : FTab K H' kvs us := h.imp fun _ _ _ r => FactS.keep r k n
theorem NotTp.frz {H : Hp} {q : Addr} {o : Obj} {kvs : List (Key × V)} (h : H q = some (.frz o (.dK kvs))) : NotTp H q := fun ys => ⟨(fun e => by rw [h] at e; cases e), (fun o' e => by rw [h] at e; cases e)⟩
def sp_law_units (K : PySem.W.Frag) : Sp := fun vs H Q _ => ∃ (d : Addr) (kvs : List (Key × V)) (us : List (Str × UF)), vs = [.ref d] ∧ H d = some (.dK kvs) ∧ FTab K H kvs us ∧ Nms us ∧
  ∀ l xs H', H l = none → Same H H' → H' l = some (.lst xs) → ULs K H' xs us → Q (.ref l) H'
theorem ok_law_units (T : Txt K mg) : FnOk P w K mg base CX0 5 (He.fAd K ("_law_units", none)) T.d_law_units ["_law_facts_here"] (sp_law_units K) := by
  refine T.F_law_units.ok sc_law_units (fun vs H Q E h => ?_) (fun cdv A outer s H vs Q E hr h => ?_)
  · obtain ⟨d, kvs, us, rfl, _⟩ := h
    rfl
  · obtain ⟨d, kvs, us, rfl, hd, ht, hN, q⟩ := h
    refine ⟨_, PSs.nox (pss_one (ps_ret (pe_lock (pe_lc (own := [("_law_word", 1)]) (by rfl) sc_law_units.nd (pi_keys (pv 0)) (blkOk_by (own := [("_law_word", 1)]) (N := N_law_units) (sc := defScope s_law_units) (by decide +kernel)) (fun _ _ _ _ _ => (pg_name (i := 1) sc_law_units.nd rfl (Or.inl rfl))) (fun _ _ _ _ _ => pts_nil) (fun _ _ _ _ _ => (pe_call (ok_law_unit T) (hr.mono (by decide)) (by rfl) T.m_law_unit T.F_law_unit.kp T.b_law_unit .nil pass0 (pa_cons (pv 1) (pa_cons (pv 0) pa_nil)))))))), ?_⟩
    refine ⟨d, _, hd, trivial, fun od => ?_⟩
    generalize hE1 : upd H d _ = H1
    have wd := new_at hE1
    have m1 := mut_keep hE1
    have ht1 := FTab.keep ht m1 (.dK hd)
    refine ⟨_, rfl, d, od, rfl, .inl ⟨kvs, wd, fun D nD => ?_⟩⟩
    have few := hN.few
    have ndD : d ≠ D := ne_some wd nD
    refine lc_it walk_keys (fun i H' => Same H1 H' ∧ ∃ xs, H' D = some (.lst xs) ∧ ULs K H' xs (us.take i)) ⟨same_upd nD, [], upd_same, .nil⟩ (fun i H' _ h => h.1 _ _ wd) ?_ ?_
    · rintro i x H2 H2' hi ⟨s2, xs, w2, hU⟩ ⟨rfl, k, v, hk, rfl⟩
      obtain ⟨w, u, rfl, hu, r⟩ := ht1.at hk
      refine ⟨rfl, yes_of (iteT ?_)⟩
      obtain ⟨v', hv', r'⟩ := ht1.get hN.nd (w, u) (List.mem_of_getElem? hu)
      have hg : DGet H2' d (.str w) (some v') := by
        rw [← hv']
        exact .inl ⟨kvs, Sum.inr w, .inr ⟨od, s2 _ _ wd⟩, rfl, rfl⟩
      refine ⟨_, rfl, _, rfl, w, d, v', u, rfl, hg, FactS.same r' s2, fun p H3 np s3 hA => ?_⟩
      have w3 := s3 _ _ w2
      refine ⟨xs, w3, by rw [hU.len, List.length_take]; exact small1000 (by omega), ?_⟩
      generalize hE4 : upd H3 D _ = H4
      have m4 := mut_keep hE4
      refine ⟨Same.own (s2.trans s3) m4 nD, _, new_at hE4, ?_⟩
      rw [take_snoc hu]
      exact ((hU.same s3).keepN m4 (.lst w3) (.lst w3)).app (.cons (hA.keepN m4 (.lst w3) (.lst w3)) .nil)
    · rintro H2 ⟨s2, xs, w2, hU⟩
      rw [ht.len, List.take_length] at hU
      have wd2 := s2 _ _ wd
      refine ⟨wd2, ?_⟩
      generalize hE3 : upd H2 d _ = H3
      have m3 := mut_keep hE3
      have nlH : H D = none := by
        have : H1 D = none := nD
        rw [← hE1, upd_ne ndD.symm] at this
        exact this
      refine q D xs H3 nlH (fun c o e => ?_) (m3 _ _ w2 ndD.symm) (hU.keepN m3 (NotTp.frz wd2) fun C dx f fs z => by rw [wd2] at z; cases z)
      by_cases c0 : c = d
      · subst c0
        rw [hd] at e
        cases e
        exact new_at hE3
      · exact m3 _ _ (s2 _ _ (m1 _ _ e c0)) c0

/-! ### the facts of a law -/
theorem inV_bl (bs : List Bool) : inV (.bl true) (bs.map V.bl) = bs.any id := by
  unfold inV
  rw [List.any_map]
  congr 1
  funext b
  cases b <;> rfl
theorem bls_flat (bs : List Bool) : (bs.map V.bl).all flatV = true := by
  rw [List.all_eq_true]
  intro v hv
  obtain ⟨x, _, rfl⟩ := List.mem_map.mp hv
  rfl
/-- the facts of a law stand so -/
structure LF (K : PySem.W.Frag) (H : Hp) (d : Addr) (us : List (Str × UF)) : Prop where
  ex : ∃ kvs, H d = some (.dK kvs) ∧ FTab K H kvs us
  nms : Nms us
  few : ∀ p ∈ us, p.2.needs.length ≤ 100 ∧ p.2.after.length ≤ 100
theorem LF.same {H H' : Hp} {d : Addr} {us : List (Str × UF)} (h : LF K H d us) (s : Same H H') : LF K H' d us := by
  obtain ⟨kvs, h1, h2⟩ := h.ex
  exact ⟨⟨kvs, s _ _ h1, FTab.same h2 s⟩, h.nms, h.few⟩
theorem LF.keepL {H H' : Hp} {d q : Addr} {us : List (Str × UF)} {xs : List V} (h : LF K H d us) (k : Kp q H H') (hq : H q = some (.lst xs)) : LF K H' d us := by
  obtain ⟨kvs, h1, h2⟩ := h.ex
  exact ⟨⟨kvs, k _ _ h1 (fun e => by rw [e, hq] at h1; cases h1), FTab.keep h2 k (.lst hq)⟩, h.nms, h.few⟩
theorem LF.keepB {H H' : Hp} {d q : Addr} {us : List (Str × UF)} {n : Nat} (h : LF K H d us) (k : Kp q H H') (B : Bag n H q) : LF K H' d us := by
  obtain ⟨_, _, _, hq, _⟩ := B.ex
  exact h.keepL k hq

-- SPLIT
/-! ### what follows at once -/
abbrev onS : Str := Str.ofString "on"
abbrev offS : Str := Str.ofString "off"
theorem ok_off : PyData.strOk offS = true := by decide +kernel
theorem ok_on : PyData.strOk onS = true := by decide +kernel
def needB (us : List (Str × UF)) (w o : Str) : Bool := match fu us o with
  | some v => decide (w ∈ v.needs)
  | none => false
def barB (us : List (Str × UF)) (w o : Str) : Bool := match fu us w, fu us o with
  | some u, some v => decide (o ∈ u.bars) || decide (w ∈ v.bars)
  | _, _ => false
def nd (us : List (Str × UF)) (w : Str) : List Str := (srt (us.map (·.1))).filter (needB us w)
def br (us : List (Str × UF)) (w : Str) : List Str := (srt (us.map (·.1))).filter (barB us w)
def ned (us : List (Str × UF)) (w : Str) : List Str := match fu us w with
  | some u => u.needs.filter fun x => decide (x ∈ us.map (·.1))
  | none => []
def ao (us : List (Str × UF)) (d : Str × Str) : List (Str × Str) :=
  if d.2 = offS then (nd us d.1).map (·, offS) else srtP ((ned us d.1).map (·, onS) ++ (br us d.1).map (·, offS))
theorem filt_len {us : List (Str × UF)} (h : Nms us) (f : Str → Bool) : ((srt (us.map (·.1))).filter f).length ≤ 16 := by
  refine Nat.le_trans (List.length_filter_le _ _) ?_
  rw [srt_len]
  exact h.len
def sp_Shelf_needing (K : PySem.W.Frag) : Sp := fun vs H Q _ => ∃ (p : Addr) (w : Str) (us : List (Str × UF)), vs = [.ref p, .str w] ∧ ShelfAt K H p us ∧ Nms us ∧ w ∈ us.map (·.1) ∧
  ∀ l H', H l = none → Same H H' → H' l = some (.lst ((nd us w).map V.str)) → Q (.ref l) H'
theorem ok_Shelf_needing (T : Txt K mg) : FnOk P w K mg base CX0 3 (He.fAd K ("Shelf", some "needing")) T.d_Shelf_needing ["self", "name"] (sp_Shelf_needing K) := by
  refine T.F_Shelf_needing.ok sc_Shelf_needing (fun vs H Q E h => ?_) (fun cdv A outer s H vs Q E hr h => ?_)
  · obtain ⟨p, w, us, rfl, _⟩ := h
    rfl
  · obtain ⟨p, w, us, rfl, hS, hN, hw, q⟩ := h
    refine ⟨_, PSs.nox (pss_cons (ps_expr (pe_meth (pv 0) T.cl_Shelf T.me_Shelf_unit (ok_Shelf_unit T) (hr.mono (by decide)) T.b_Shelf_unit .nil pass0 (pa_cons (pv 1) pa_nil)))
      (pss_one (ps_ret (pe_lc (own := [("other", 2)]) (by rfl) sc_Shelf_needing.nd (pi_list (pe_meth0 (pv 0) T.cl_Shelf T.me_Shelf_names (ok_Shelf_names T) (hr.mono (by decide)) T.b_Shelf_names .nil pass0)) (blkOk_by (own := [("other", 2)]) (N := N_Shelf_needing) (sc := defScope s_Shelf_needing) (by decide +kernel)) (fun _ _ _ _ _ => (pg_name (i := 2) sc_Shelf_needing.nd rfl (Or.inl rfl))) (fun _ _ _ _ _ => by exact (pts_one (pt_cmpR (r := rIn K false) op_in_seq (pv 1) (UP.pe_fldK (K := K) (by rfl) (pe_dget (hu_of hr) (UP.pe_fldK (K := K) (by rfl) (pv 0) (by rfl)) (pv 2) (fun _ _ => rfl)) (by rfl)) (by rfl)))) (fun _ _ _ _ _ => (pv 2)))))), ?_⟩
    obtain ⟨dx, d, kvs, hp, hd, ht⟩ := id hS
    refine ⟨_, rfl, p, dx, _, rfl, hp, rfl, _, rfl, p, w, us, rfl, hS, hN, hw, fun a u hu hA => ?_⟩
    refine ⟨_, rfl, p, dx, _, rfl, hp, rfl, p, us, rfl, hS, hN, fun l H1 nl s1 wl => ?_⟩
    refine ⟨l, rfl, ⟨_, SqL.of wl⟩, fun D nD => ?_⟩
    refine lc_list (xs := (srt (us.map (·.1))).map V.str) (fun i H' => Same H1 H' ∧ H' D = some (.lst ((((srt (us.map (·.1))).take i).filter (needB us w)).map V.str))) ⟨same_upd nD, upd_same⟩ (fun i H' _ h => SqL.of (h.1 _ _ wl)) ?_ ?_
    · rintro i x H2 hi ⟨s2, w2⟩
      obtain ⟨o, ho, rfl⟩ := map_str_get hi
      have hom : o ∈ us.map (·.1) := srt_mem.mp (List.mem_of_getElem? ho)
      obtain ⟨v, hfo, hv⟩ := fu_of hom hN.nd
      have wb : needB us w o = decide (w ∈ v.needs) := by
        unfold needB
        rw [hfo]
      have s12 := s1.trans s2
      obtain ⟨ov, hov, b, rfl, hB⟩ := ht.get hN.nd (o, v) hv
      obtain ⟨dxv, m1, m2, m3, m4, r2, hb, hm1, _⟩ := id hB
      refine ⟨rfl, _, rfl, _, rfl, p, _, dx, _, _, rfl, s12 _ _ hp, T.cl_Shelf, T.na_Shelf_by_name, rfl, _, rfl, d, .ref b, rfl, by rw [← hov]; exact DGet.k (k := Sum.inr o) (s12 _ _ hd), b, _, dxv, _, _, rfl, s12 _ _ hb, T.cl_Unit, T.na_Unit_needs, rfl, m1, _, rfl, .inr (tup_same s12 hm1), rfl, strs_flat _, _, rfl, ?_⟩
      rw [inV_str, take_filter_snoc _ ho, wb]
      by_cases c : w ∈ v.needs
      · rw [decide_eq_true c]
        refine iteT ⟨_, rfl, _, w2, ?_, Same.own (q := D) s2 (mut_keep rfl) nD, ?_⟩
        · rw [List.length_map]
          refine Nat.lt_of_le_of_lt (List.length_filter_le _ _) (Nat.lt_of_le_of_lt (List.length_take_le' ..) (small1000 ?_))
          rw [srt_len]
          have := hN.len
          omega
        · rw [upd_same, if_pos rfl, List.map_append]
          rfl
      · rw [decide_eq_false c]
        refine iteF ⟨s2, ?_⟩
        rw [if_neg Bool.false_ne_true, List.append_nil]
        exact w2
    · rintro H2 ⟨s2, w2⟩
      rw [List.length_map, List.take_length] at w2
      exact q D H2 (s1.free nD) (s1.trans s2) w2
def sp_Shelf_barred (K : PySem.W.Frag) : Sp := fun vs H Q _ => ∃ (p : Addr) (w : Str) (us : List (Str × UF)), vs = [.ref p, .str w] ∧ ShelfAt K H p us ∧ Nms us ∧ w ∈ us.map (·.1) ∧
  ∀ l H', H l = none → Same H H' → H' l = some (.lst ((br us w).map V.str)) → Q (.ref l) H'
theorem ok_Shelf_barred (T : Txt K mg) : FnOk P w K mg base CX0 3 (He.fAd K ("Shelf", some "barred")) T.d_Shelf_barred ["self", "name"] (sp_Shelf_barred K) := by
  refine T.F_Shelf_barred.ok sc_Shelf_barred (fun vs H Q E h => ?_) (fun cdv A outer s H vs Q E hr h => ?_)
  · obtain ⟨p, w, us, rfl, _⟩ := h
    rfl
  · obtain ⟨p, w, us, rfl, hS, hN, hw, q⟩ := h
    refine ⟨_, PSs.nox (pss_cons (ps_set (i := 2) sc_Shelf_barred.nd rfl (Or.inr rfl) (pe_fld (pe_meth (pv 0) T.cl_Shelf T.me_Shelf_unit (ok_Shelf_unit T) (hr.mono (by decide)) T.b_Shelf_unit .nil pass0 (pa_cons (pv 1) pa_nil)) rfl))
      (pss_one (ps_ret (pe_lc (own := [("other", 3)]) (by rfl) sc_Shelf_barred.nd (pi_list (pe_meth0 (pv 0) T.cl_Shelf T.me_Shelf_names (ok_Shelf_names T) (hr.mono (by decide)) T.b_Shelf_names .nil pass0)) (blkOk_by (own := [("other", 3)]) (N := N_Shelf_barred) (sc := defScope s_Shelf_barred) (by decide +kernel)) (fun _ _ _ _ _ => (pg_name (i := 3) sc_Shelf_barred.nd rfl (Or.inl rfl))) (fun _ _ _ _ _ => by exact (pts_one (PW.pt (pw_or (pt_cmpR (r := rIn K false) op_in_seq (pv 3) (pv 2) (by rfl)) (pw_or1 (pt_cmpR (r := rIn K false) op_in_seq (pv 1) (UP.pe_fldK (K := K) (by rfl) (pe_dget (hu_of hr) (UP.pe_fldK (K := K) (by rfl) (pv 0) (by rfl)) (pv 3) (fun _ _ => rfl)) (by rfl)) (by rfl))))))) (fun _ _ _ _ _ => (pv 3)))))), ?_⟩
    obtain ⟨dx, d, kvs, hp, hd, ht⟩ := id hS
    refine ⟨_, rfl, p, dx, _, rfl, hp, rfl, _, rfl, p, w, us, rfl, hS, hN, hw, fun a u hu hA => ?_⟩
    have hfu : fu us w = some u := fu_some hN.nd hu
    obtain ⟨dxu, n1, n2, n3, n4, r, ha, hn1, hn2, hn3, hn4, _⟩ := id hA
    refine ⟨a, _, dxu, _, _, rfl, ha, T.cl_Unit, T.na_Unit_bars, rfl, ?_⟩
    refine ⟨_, rfl, p, dx, _, rfl, hp, rfl, p, us, rfl, hS, hN, fun l H1 nl s1 wl => ?_⟩
    refine ⟨l, rfl, ⟨_, SqL.of wl⟩, fun D nD => ?_⟩
    refine lc_list (xs := (srt (us.map (·.1))).map V.str) (fun i H' => Same H1 H' ∧ H' D = some (.lst ((((srt (us.map (·.1))).take i).filter (barB us w)).map V.str))) ⟨same_upd nD, upd_same⟩ (fun i H' _ h => SqL.of (h.1 _ _ wl)) ?_ ?_
    · rintro i x H2 hi ⟨s2, w2⟩
      obtain ⟨o, ho, rfl⟩ := map_str_get hi
      have hom : o ∈ us.map (·.1) := srt_mem.mp (List.mem_of_getElem? ho)
      obtain ⟨v, hfo, hv⟩ := fu_of hom hN.nd
      have wb : barB us w o = (decide (o ∈ u.bars) || decide (w ∈ v.bars)) := by
        unfold barB
        rw [hfu, hfo]
      have s12 := s1.trans s2
      have hlen : ((((srt (us.map (·.1))).take i).filter (barB us w)).map V.str).length < sizeLine := by
        rw [List.length_map]
        refine Nat.lt_of_le_of_lt (List.length_filter_le _ _) (Nat.lt_of_le_of_lt (List.length_take_le' ..) (small1000 ?_))
        rw [srt_len]
        have := hN.len
        omega
      have yes : barB us w o = true → Same H1 (upd H2 D (.lst (((((srt (us.map (·.1))).take i).filter (barB us w)).map V.str) ++ [.str o]))) ∧ (upd H2 D (.lst (((((srt (us.map (·.1))).take i).filter (barB us w)).map V.str) ++ [.str o]))) D = some (.lst ((((srt (us.map (·.1))).take (i + 1)).filter (barB us w)).map V.str)) := fun c => by
        refine ⟨Same.own (q := D) s2 (mut_keep rfl) nD, ?_⟩
        rw [upd_same, take_filter_snoc _ ho, if_pos c, List.map_append]
        rfl
      refine ⟨rfl, _, rfl, _, rfl, n3, _, rfl, .inr (tup_same s12 hn3), rfl, strs_flat _, _, rfl, ?_⟩
      rw [inV_str]
      by_cases c1 : o ∈ u.bars
      · rw [decide_eq_true c1] at wb ⊢
        exact iteT (iteT ⟨_, rfl, _, w2, hlen, yes (by rw [wb]; rfl)⟩)
      rw [decide_eq_false c1] at wb ⊢
      obtain ⟨ov, hov, b, rfl, hB⟩ := ht.get hN.nd (o, v) hv
      obtain ⟨dxv, m1, m2, m3, m4, r2, hb, hm1, hm2, hm3, _⟩ := id hB
      refine iteF ⟨_, rfl, _, rfl, p, _, dx, _, _, rfl, s12 _ _ hp, T.cl_Shelf, T.na_Shelf_by_name, rfl, _, rfl, d, .ref b, rfl, by rw [← hov]; exact DGet.k (k := Sum.inr o) (s12 _ _ hd), b, _, dxv, _, _, rfl, s12 _ _ hb, T.cl_Unit, T.na_Unit_bars, rfl, m3, _, rfl, .inr (tup_same s12 hm3), rfl, strs_flat _, _, rfl, ?_⟩
      rw [inV_str]
      by_cases c3 : w ∈ v.bars
      · rw [decide_eq_true c3] at wb ⊢
        exact iteT ⟨_, rfl, _, w2, hlen, yes (by rw [wb]; rfl)⟩
      · rw [decide_eq_false c3] at wb ⊢
        refine iteF ⟨s2, ?_⟩
        rw [take_filter_snoc _ ho, if_neg (by rw [wb]; exact Bool.false_ne_true), List.append_nil]
        exact w2
    · rintro H2 ⟨s2, w2⟩
      rw [List.length_map, List.take_length] at w2
      exact q D H2 (s1.free nD) (s1.trans s2) w2
/-- one pair more -/
theorem pair_put {H1 H2 : Hp} {D t : Addr} {xs : List V} {ds : List (Str × Str)} {a b : Str} (s : Same H1 H2) (nD : H1 D = none) (w : H2 D = some (.lst xs)) (p : PrH H2 xs ds) (n : H2 t = none) :
    Same H1 (upd (upd H2 t (.tup [.str a, .str b])) D (.lst (xs ++ [.ref t]))) ∧ ∃ ys, (upd (upd H2 t (.tup [.str a, .str b])) D (.lst (xs ++ [.ref t]))) D = some (.lst ys) ∧ PrH (upd (upd H2 t (.tup [.str a, .str b])) D (.lst (xs ++ [.ref t]))) ys (ds ++ [(a, b)]) := by
  have st : Same H2 (upd H2 t (.tup [.str a, .str b])) := same_upd n
  have wD := st _ _ w
  have m : Kp D (upd H2 t (.tup [.str a, .str b])) (upd (upd H2 t (.tup [.str a, .str b])) D (.lst (xs ++ [.ref t]))) := mut_keep rfl
  refine ⟨Same.own (s.trans st) m nD, _, upd_same, ((p.same st).keep m (.lst wD)).app (.cons (d := (a, b)) (m _ _ upd_same (ne_some w n).symm) .nil)⟩
def sp_at_once (K : PySem.W.Frag) : Sp := fun vs H Q _ => ∃ (p t : Addr) (us : List (Str × UF)) (d : Str × Str), vs = [.ref p, .ref t] ∧ ShelfAt K H p us ∧ Nms us ∧ (∀ p ∈ us, p.2.needs.length ≤ 100) ∧ SqT K H t [.str d.1, .str d.2] ∧ d.1 ∈ us.map (·.1) ∧
  ∀ l xs H', H l = none → Same H H' → H' l = some (.lst xs) → PrH H' xs (ao us d) → Q (.ref l) H'
theorem ok_at_once (T : Txt K mg) : FnOk P w K mg base CX0 4 (He.fAd K ("at_once", none)) T.d_at_once ["shelf", "demand"] (sp_at_once K) := by
  refine T.F_at_once.ok sc_at_once (fun vs H Q E h => ?_) (fun cdv A outer s H vs Q E hr h => ?_)
  · obtain ⟨p, t, us, d, rfl, _⟩ := h
    rfl
  · obtain ⟨p, t, us, d, rfl, hS, hN, hF, ht, hd, q⟩ := h
    refine ⟨_, PSs.nox (pss_cons (ps_asg (pv 1) (pg_tup rfl (pgs_cons (pg_name (i := 2) sc_at_once.nd rfl (Or.inl rfl)) (pgs_cons (pg_name (i := 3) sc_at_once.nd rfl (Or.inl rfl)) pgs_nil))))
      (pss_cons (ps_if (pt_cmpR op_eq (pv 3) pe_str (nomark _))
      (pss_one (ps_ret (pe_lc (own := [("other", 6)]) (by rfl) sc_at_once.nd (pi_list (pe_meth (pv 0) T.cl_Shelf T.me_Shelf_needing (ok_Shelf_needing T) (hr.mono (by decide)) T.b_Shelf_needing .nil pass0 (pa_cons (pv 2) pa_nil))) (blkOk_by (own := [("other", 6)]) (N := N_at_once) (sc := defScope s_at_once) (by decide +kernel)) (fun _ _ _ _ _ => (pg_name (i := 6) sc_at_once.nd rfl (Or.inl rfl))) (fun _ _ _ _ _ => pts_nil) (fun _ _ _ _ _ => (pe_tup (pa_cons (pv 6) (pa_cons pe_str pa_nil)))))))
      pss_nil)
      (pss_cons (ps_setLc (i := 4) (own := [("other", 6)]) (by rfl) sc_at_once.nd rfl rfl (sw_true rfl rfl rfl (by decide +kernel)) (pi_tup (pe_fld (pe_meth (pv 0) T.cl_Shelf T.me_Shelf_unit (ok_Shelf_unit T) (hr.mono (by decide)) T.b_Shelf_unit .nil pass0 (pa_cons (pv 2) pa_nil)) rfl)) (blkOk_by (own := [("other", 6)]) (N := N_at_once) (sc := defScope s_at_once) (by decide +kernel)) (fun _ _ _ _ _ => (pg_name (i := 6) sc_at_once.nd rfl (Or.inl rfl))) (fun _ _ _ _ _ => by exact (pts_one (pt_val (pe_meth (pv 0) T.cl_Shelf T.me_Shelf_has (ok_Shelf_has T) (hr.mono (by decide)) T.b_Shelf_has .nil pass0 (pa_cons (pv 6) pa_nil))))) (fun _ _ _ _ _ => (pe_tup (pa_cons (pv 6) (pa_cons pe_str pa_nil)))))
      (pss_cons (ps_setLc (i := 5) (own := [("other", 6)]) (by rfl) sc_at_once.nd rfl rfl (sw_true rfl rfl rfl (by decide +kernel)) (pi_list (pe_meth (pv 0) T.cl_Shelf T.me_Shelf_barred (ok_Shelf_barred T) (hr.mono (by decide)) T.b_Shelf_barred .nil pass0 (pa_cons (pv 2) pa_nil))) (blkOk_by (own := [("other", 6)]) (N := N_at_once) (sc := defScope s_at_once) (by decide +kernel)) (fun _ _ _ _ _ => (pg_name (i := 6) sc_at_once.nd rfl (Or.inl rfl))) (fun _ _ _ _ _ => pts_nil) (fun _ _ _ _ _ => (pe_tup (pa_cons (pv 6) (pa_cons pe_str pa_nil)))))
      (pss_one (ps_ret (pe_callB (id := "sorted")  (UD.cr_sortP hr.units) (by rfl) T.n_sorted (by decide +kernel) (pa_cons (pe_op op_cat (pv 4) (pv 5)) pa_nil)))))))), ?_⟩
    refine ⟨_, rfl, t, _, rfl, ht, rfl, _, _, rfl, _, _, rfl, rfl, ?_⟩
    obtain ⟨dx, dd, kvs, hp, _⟩ := id hS
    refine ⟨_, rfl, rfl, _, rfl, ?_⟩
    by_cases c : d.2 = offS
    · rw [show decide (V.str d.2 = V.str offS) = true from decide_eq_true (by rw [c])]
      refine iteT ?_
      refine ⟨_, rfl, p, dx, _, rfl, hp, rfl, _, rfl, p, _, us, rfl, hS, hN, hd, fun l H1 nl s1 wl => ?_⟩
      refine ⟨l, rfl, ⟨_, SqL.of wl⟩, fun D nD => ?_⟩
      refine lc_list (xs := (nd us d.1).map V.str) (fun i H' => Same H1 H' ∧ ∃ xs, H' D = some (.lst xs) ∧ PrH H' xs (((nd us d.1).take i).map (·, offS))) ⟨same_upd nD, [], upd_same, .nil⟩ (fun i H' _ h => SqL.of (h.1 _ _ wl)) ?_ ?_
      · rintro i x H2 hi ⟨s2, xs, w2, p2⟩
        obtain ⟨o, ho, rfl⟩ := map_str_get hi
        refine ⟨rfl, yes_of (iteT ⟨_, rfl, by show 2 ≤ sizeLine; decide, fun t2 n2 => ⟨xs, same_upd n2 _ _ w2, ?_, ?_⟩⟩)⟩
        · rw [p2.len, List.length_map]
          exact Nat.lt_of_le_of_lt (List.length_take_le' ..) (Nat.lt_of_le_of_lt (filt_len hN _) (small1000 (by decide)))
        · rw [take_snoc ho, List.map_append]
          exact pair_put s2 nD w2 p2 n2
      · rintro H2 ⟨s2, xs, w2, p2⟩
        rw [List.length_map, List.take_length] at p2
        refine q D xs H2 (s1.free nD) (s1.trans s2) w2 ?_
        unfold ao
        rw [if_pos c]
        exact p2
    · rw [show decide (V.str d.2 = V.str offS) = false from decide_eq_false fun z => c (by injection z)]
      refine iteF ?_
      obtain ⟨u, hfu, hu⟩ := fu_of hd hN.nd
      have hned : ned us d.1 = u.needs.filter fun x => decide (x ∈ us.map (·.1)) := by
        unfold ned
        rw [hfu]
      -- needed
      refine ⟨_, rfl, p, dx, _, rfl, hp, rfl, _, rfl, p, _, us, rfl, hS, hN, hd, fun a u' hu' hA => ?_⟩
      obtain rfl : u' = u := Option.some.inj ((fu_some hN.nd hu').symm.trans hfu)
      obtain ⟨dxu, n1, n2, n3, n4, r, ha, hn1, _⟩ := id hA
      have hnl : u'.needs.length ≤ 100 := hF _ hu
      refine ⟨a, _, dxu, _, _, rfl, ha, T.cl_Unit, T.na_Unit_needs, rfl, n1, rfl, ⟨_, hn1⟩, fun D nD => ?_⟩
      refine lc_tup (xs := u'.needs.map V.str) (fun i H' => Same H H' ∧ ∃ xs, H' D = some (.lst xs) ∧ PrH H' xs (((u'.needs.take i).filter fun x => decide (x ∈ us.map (·.1))).map (·, onS))) ⟨same_upd nD, [], upd_same, .nil⟩ (fun i H' _ h => tup_same h.1 hn1) ?_ ?_
      · rintro i x H2 hi ⟨s2, xs, w2, p2⟩
        obtain ⟨o, ho, rfl⟩ := map_str_get hi
        have hp2 := s2 _ _ hp
        refine ⟨rfl, _, rfl, p, dx, _, rfl, hp2, rfl, _, rfl, p, o, us, rfl, hS.same s2, hN, _, rfl, ?_⟩
        rw [take_filter_snoc _ ho]
        by_cases c2 : o ∈ us.map (·.1)
        · rw [decide_eq_true c2]
          refine iteT ⟨_, rfl, by show 2 ≤ sizeLine; decide, fun t2 n2 => ⟨xs, same_upd n2 _ _ w2, ?_, ?_⟩⟩
          · rw [p2.len, List.length_map]
            exact Nat.lt_of_le_of_lt (List.length_filter_le _ _) (Nat.lt_of_le_of_lt (List.length_take_le' ..) (small1000 (by omega)))
          · rw [if_pos rfl, List.map_append]
            exact pair_put s2 nD w2 p2 n2
        · rw [decide_eq_false c2]
          refine iteF ⟨s2, xs, w2, ?_⟩
          rw [if_neg Bool.false_ne_true, List.append_nil]
          exact p2
      rintro H2 ⟨s2, xs, w2, p2⟩
      rw [List.length_map, List.take_length, ← hned] at p2
      -- barred
      have hp2 := s2 _ _ hp
      have hS2 := hS.same s2
      refine ⟨_, rfl, p, dx, _, rfl, hp2, rfl, _, rfl, p, _, us, rfl, hS2, hN, hd, fun l H3 nl s3 wl => ?_⟩
      refine ⟨l, rfl, ⟨_, SqL.of wl⟩, fun D2 nD2 => ?_⟩
      refine lc_list (xs := (br us d.1).map V.str) (fun i H' => Same H3 H' ∧ ∃ xs, H' D2 = some (.lst xs) ∧ PrH H' xs (((br us d.1).take i).map (·, offS))) ⟨same_upd nD2, [], upd_same, .nil⟩ (fun i H' _ h => SqL.of (h.1 _ _ wl)) ?_ ?_
      · rintro i x H4 hi ⟨s4, ys, w4, p4⟩
        obtain ⟨o, ho, rfl⟩ := map_str_get hi
        refine ⟨rfl, yes_of (iteT ⟨_, rfl, by show 2 ≤ sizeLine; decide, fun t2 n2 => ⟨ys, same_upd n2 _ _ w4, ?_, ?_⟩⟩)⟩
        · rw [p4.len, List.length_map]
          exact Nat.lt_of_le_of_lt (List.length_take_le' ..) (Nat.lt_of_le_of_lt (filt_len hN _) (small1000 (by decide)))
        · rw [take_snoc ho, List.map_append]
          exact pair_put s4 nD2 w4 p4 n2
      rintro H4 ⟨s4, ys, w4, p4⟩
      rw [List.length_map, List.take_length] at p4
      have s34 := s3.trans s4
      have l1 : (ned us d.1).length ≤ 100 := by
        rw [hned]
        exact Nat.le_trans (List.length_filter_le _ _) hnl
      have l2 : (br us d.1).length ≤ 16 := filt_len hN _
      -- sorted(needed + barred)
      refine ⟨_, rfl, _, rfl, D, D2, xs, ys, rfl, rfl, s34 _ _ w2, w4, by rw [p2.len, p4.len, List.length_map, List.length_map]; exact Nat.le_of_lt (small1000 (by omega)), fun D3 nD3 => ?_⟩
      generalize hE5 : upd H4 D3 _ = H5
      have w5 := new_at hE5
      have s5 := new_same hE5 nD3
      refine ⟨D3, _, _, rfl, SqL.of w5, ((p2.same s34).same s5).app (p4.same s5), by rw [List.length_append, List.length_map, List.length_map]; omega, fun D4 zs nD4 pz => ?_⟩
      have s6 : Same H5 (upd H5 D4 (.lst zs)) := same_upd nD4
      have sA := ((s2.trans s34).trans s5)
      refine q D4 zs _ (sA.free nD4) (sA.trans s6) upd_same ?_
      unfold ao
      rw [if_neg c]
      exact pz.same s6

-- SPLIT
/-! ### all that follows -/
inductive Reach (us : List (Str × UF)) (ds : List (Str × Str)) : Str × Str → Prop
  | base {d : Str × Str} (h : d ∈ ds) : Reach us ds d
  | step {a b : Str × Str} (h : Reach us ds a) (g : b ∈ ao us a) : Reach us ds b
def WD (us : List (Str × UF)) (d : Str × Str) : Prop := d.1 ∈ us.map (·.1) ∧ (d.2 = onS ∨ d.2 = offS)
theorem ao_wd {us : List (Str × UF)} {a b : Str × Str} (h : b ∈ ao us a) : WD us b := by
  unfold ao at h
  by_cases c : a.2 = offS
  · rw [if_pos c] at h
    obtain ⟨o, ho, rfl⟩ := List.mem_map.mp h
    exact ⟨srt_mem.mp (List.mem_filter.mp ho).1, .inr rfl⟩
  · rw [if_neg c] at h
    rcases List.mem_append.mp (srtP_mem.mp h) with h | h
    · obtain ⟨o, ho, rfl⟩ := List.mem_map.mp h
      refine ⟨?_, .inl rfl⟩
      unfold ned at ho
      split at ho
      · exact of_decide_eq_true (List.mem_filter.mp ho).2
      · cases ho
    · obtain ⟨o, ho, rfl⟩ := List.mem_map.mp h
      exact ⟨srt_mem.mp (List.mem_filter.mp ho).1, .inr rfl⟩
theorem reach_wd {us : List (Str × UF)} {ds : List (Str × Str)} (hd : ∀ d ∈ ds, WD us d) {d : Str × Str} (h : Reach us ds d) : WD us d := by
  cases h with
  | base h => exact hd d h
  | step _ g => exact ao_wd g
theorem wd_few {us : List (Str × UF)} (hN : Nms us) {es : List (Str × Str)} (hn : es.Nodup) (h : ∀ d ∈ es, WD us d) : es.length ≤ 32 := by
  have := nodup_le es ((us.map (·.1)).map (·, onS) ++ (us.map (·.1)).map (·, offS)) hn fun d hd => by
    obtain ⟨h1, h2⟩ := h d hd
    rcases h2 with e | e
    · exact List.mem_append_left _ (List.mem_map.mpr ⟨d.1, h1, by rw [← e]⟩)
    · exact List.mem_append_right _ (List.mem_map.mpr ⟨d.1, h1, by rw [← e]⟩)
  rw [List.length_append, List.length_map, List.length_map (f := (·, offS))] at this
  have := hN.len
  omega
theorem closed_reach {us : List (Str × UF)} {ds es : List (Str × Str)} (h0 : ∀ d ∈ ds, d ∈ es) (hc : ∀ a ∈ es, ∀ b ∈ ao us a, b ∈ es) {d : Str × Str} (h : Reach us ds d) : d ∈ es := by
  induction h with
  | base h => exact h0 _ h
  | step _ g ih => exact hc _ ih _ g

/-! ### how near a demand is -/
inductive Near (us : List (Str × UF)) (ds : List (Str × Str)) : Nat → Str × Str → Prop
  | base {d : Str × Str} (h : d ∈ ds) : Near us ds 0 d
  | step {n : Nat} {a b : Str × Str} (h : Near us ds n a) (g : b ∈ ao us a) : Near us ds (n + 1) b
/-- by just so many links, not by fewer -/
def Lv (us : List (Str × UF)) (ds : List (Str × Str)) (n : Nat) (d : Str × Str) : Prop := Near us ds n d ∧ ∀ m, m < n → ¬ Near us ds m d
section
variable {us : List (Str × UF)} {ds : List (Str × Str)}
theorem Lv.uniq {n m : Nat} {d : Str × Str} (h : Lv us ds n d) (g : Lv us ds m d) : n = m := by
  rcases Nat.lt_trichotomy n m with c | c | c
  · exact absurd h.1 (g.2 n c)
  · exact c
  · exact absurd g.1 (h.2 m c)
theorem near_lv : ∀ {n : Nat} {d : Str × Str}, Near us ds n d → ∃ m, m ≤ n ∧ Lv us ds m d := by
  intro n
  induction n using Nat.strongRecOn with
  | ind n ih =>
    intro d h
    by_cases c : ∃ m, m < n ∧ Near us ds m d
    · obtain ⟨m, hm, hd⟩ := c
      obtain ⟨k, hk, hl⟩ := ih m hm hd
      exact ⟨k, by omega, hl⟩
    · exact ⟨n, Nat.le_refl _, h, fun m hm hd => c ⟨m, hm, hd⟩⟩
theorem lv_step {n : Nat} {b : Str × Str} (h : Lv us ds (n + 1) b) : ∃ a, Lv us ds n a ∧ b ∈ ao us a := by
  obtain ⟨h1, h2⟩ := h
  cases h1 with
  | step ha g => exact ⟨_, ⟨ha, fun m hm hd => h2 (m + 1) (by omega) (.step hd g)⟩, g⟩
theorem lv_down {i m : Nat} {d : Str × Str} (h : Lv us ds m d) (hi : i ≤ m) : ∃ a, Lv us ds i a := by
  obtain ⟨k, rfl⟩ := Nat.exists_eq_add_of_le hi
  induction k generalizing d with
  | zero => exact ⟨d, h⟩
  | succ k ih =>
    obtain ⟨a, ha, _⟩ := lv_step (n := i + k) h
    exact ih ha (by omega)
theorem lv0 {d : Str × Str} : Lv us ds 0 d ↔ d ∈ ds := by
  refine ⟨fun h => ?_, fun h => ⟨.base h, fun m hm => absurd hm (Nat.not_lt_zero m)⟩⟩
  obtain ⟨h, _⟩ := h
  cases h with
  | base h => exact h
theorem near_wd {n : Nat} {d : Str × Str} (hd : ∀ d ∈ ds, WD us d) (h : Near us ds n d) : WD us d := by
  cases h with
  | base h => exact hd d h
  | step _ g => exact ao_wd g
/-- a new one behind those found so far -/
theorem lv_new {i : Nat} {es : List (Str × Str)} {a b : Str × Str} (he : ∀ d, d ∈ es ↔ ∃ m, m ≤ i ∧ Lv us ds m d) (ha : Lv us ds i a) (g : b ∈ ao us a) (hb : b ∉ es) : Lv us ds (i + 1) b := by
  refine ⟨.step ha.1 g, fun m hm hn => ?_⟩
  obtain ⟨k, hk, hl⟩ := near_lv hn
  exact hb ((he b).mpr ⟨k, by omega, hl⟩)
theorem lv_round {i : Nat} {es fs rs : List (Str × Str)} (he : ∀ d, d ∈ es ↔ ∃ m, m ≤ i ∧ Lv us ds m d) (hf : ∀ d, d ∈ fs ↔ Lv us ds i d) (hr : ∀ d ∈ rs, Lv us ds (i + 1) d) (hc : ∀ a ∈ fs, ∀ b ∈ ao us a, b ∈ es ++ rs) :
    (∀ d, d ∈ es ++ rs ↔ ∃ m, m ≤ i + 1 ∧ Lv us ds m d) ∧ ∀ d, d ∈ rs ↔ Lv us ds (i + 1) d := by
  have h1 : ∀ d, Lv us ds (i + 1) d → d ∈ es ++ rs := fun d hd => by
    obtain ⟨a, ha, g⟩ := lv_step hd
    exact hc a ((hf a).mpr ha) d g
  refine ⟨fun d => ⟨fun hd => ?_, ?_⟩, fun d => ⟨hr d, fun hd => ?_⟩⟩
  · rcases List.mem_append.mp hd with hd | hd
    · obtain ⟨m, hm, hl⟩ := (he d).mp hd
      exact ⟨m, by omega, hl⟩
    · exact ⟨i + 1, Nat.le_refl _, hr d hd⟩
  · rintro ⟨m, hm, hl⟩
    rcases Nat.lt_or_ge i m with c | c
    · obtain rfl : m = i + 1 := by omega
      exact h1 d hl
    · exact List.mem_append_left _ ((he d).mpr ⟨m, c, hl⟩)
  · rcases List.mem_append.mp (h1 d hd) with c | c
    · obtain ⟨m, hm, hl⟩ := (he d).mp c
      have := hl.uniq hd
      omega
    · exact c
theorem lv_all {i : Nat} {es : List (Str × Str)} (he : ∀ d, d ∈ es ↔ ∃ m, m ≤ i ∧ Lv us ds m d) (hf : ∀ d, ¬ Lv us ds i d) (d : Str × Str) : d ∈ es ↔ ∃ m, Lv us ds m d := by
  rw [he]
  refine ⟨fun ⟨m, _, h⟩ => ⟨m, h⟩, fun ⟨m, h⟩ => ⟨m, ?_, h⟩⟩
  rcases Nat.lt_or_ge m i with c | c
  · omega
  · obtain ⟨a, ha⟩ := lv_down h c
    exact absurd ha (hf a)
end
/-- what a demand is there by -/
def Par (H : Hp) (us : List (Str × UF)) (ds : List (Str × Str)) (d : Str × Str) (v : V) : Prop :=
  (Lv us ds 0 d ∧ v = .non) ∨ ∃ n t a, Lv us ds (n + 1) d ∧ v = .ref t ∧ H t = some (.tup [.str a.1, .str a.2]) ∧ Lv us ds n a ∧ d ∈ ao us a
/-- by each that was found what it is there by -/
def Pars (H : Hp) (us : List (Str × UF)) (ds : List (Str × Str)) (kvs : List (List Key × V)) : Prop := ∀ d v, valV kvs (key2 d) = some v → Par H us ds d v
theorem Pars.same {H H' : Hp} {us : List (Str × UF)} {ds : List (Str × Str)} {kvs : List (List Key × V)} (h : Pars H us ds kvs) (s : Same H H') : Pars H' us ds kvs := fun d v e => by
  rcases h d v e with h | ⟨n, t, a, h1, h2, h3, h4⟩
  · exact .inl h
  · exact .inr ⟨n, t, a, h1, h2, s _ _ h3, h4⟩
theorem Pars.keep {H H' : Hp} {us : List (Str × UF)} {ds : List (Str × Str)} {kvs : List (List Key × V)} {q : Addr} (h : Pars H us ds kvs) (k : Kp q H H') (n : NotTup H q) : Pars H' us ds kvs := fun d v e => by
  rcases h d v e with h | ⟨m, t, a, h1, h2, h3, h4⟩
  · exact .inl h
  · exact .inr ⟨m, t, a, h1, h2, k _ _ h3 (n.ne h3), h4⟩
theorem Pars.put {H : Hp} {us : List (Str × UF)} {ds : List (Str × Str)} {kvs : List (List Key × V)} {d : Str × Str} {v : V} (h : Pars H us ds kvs) (hv : Par H us ds d v) : Pars H us ds (putK kvs (key2 d) v) := fun e x hx => by
  rw [valV_put] at hx
  by_cases c : key2 e = key2 d
  · rw [if_pos c] at hx
    cases hx
    rw [key2_inj c]
    exact hv
  · rw [if_neg c] at hx
    exact h e x hx

/-! ### causes -/
def sp_causes (K : PySem.W.Frag) : Sp := fun vs H Q _ => ∃ (p l : Addr) (us : List (Str × UF)) (xs : List V) (ds : List (Str × Str)), vs = [.ref p, .ref l] ∧ ShelfAt K H p us ∧ Nms us ∧ (∀ p ∈ us, p.2.needs.length ≤ 100) ∧ SqL K H l xs ∧ PrH H xs ds ∧ (∀ d ∈ ds, WD us d) ∧
  ∀ D (kvs : List (List Key × V)) (es : List (Str × Str)) H', H D = none → Same H H' → H' D = some (.dT kvs) → kvs.map (·.1) = es.map key2 → es.Nodup → (∀ d, d ∈ es ↔ ∃ n, Lv us ds n d) → Pars H' us ds kvs → Q (.ref D) H'
theorem ok_causes (T : Txt K mg) : FnOk P w K mg base CX0 5 (He.fAd K ("causes", none)) T.d_causes ["shelf", "demands"] (sp_causes K) := by
  refine T.F_causes.ok sc_causes (fun vs H Q E h => ?_) (fun cdv A outer s H vs Q E hr h => ?_)
  · obtain ⟨p, l, us, xs, ds, rfl, _⟩ := h
    rfl
  · obtain ⟨p, l, us, xs, ds, rfl, hS, hN, hF, hl, hP, hW, q⟩ := h
    refine ⟨_, PSs.nox (pss_cons (UD.ps_setDt (hu_of hr) (i := 3) (own := [("demand", 2)]) (by rfl) sc_causes.nd rfl rfl (UP.sw_dict rfl rfl rfl (by decide +kernel)) (pi_list (pv 1)) (blkOk_by (own := [("demand", 2)]) (N := N_causes) (sc := defScope s_causes) (by decide +kernel)) (fun _ _ _ _ _ => (pg_name (i := 2) sc_causes.nd rfl (Or.inl rfl))) (fun _ _ _ _ _ => pts_nil) (fun _ _ _ _ _ => (pv 2)) (fun _ _ _ _ _ => pe_non))
      (pss_cons (ps_set (i := 4) sc_causes.nd rfl (Or.inl rfl) (pe_callTy (T := "list")  (call_list_dT rfl) (by rfl) T.n_list (by decide +kernel) (pa_cons (pv 3) pa_nil)))
      (pss_cons (ps_while PassesOwn.never (pt_cmpR op_gt (pe_callB (id := "len")  call_len_seq (by rfl) T.n_len (by decide +kernel) (pa_cons (pv 4) pa_nil)) pe_int (nomark _))
      (pss_cons (ps_set (i := 5) sc_causes.nd rfl (Or.inl rfl) (pe_lst pa_nil))
      (pss_cons (ps_for PassesOwn.never rfl (pi_list (pv 4)) (pg_name (i := 2) sc_causes.nd rfl (Or.inl rfl))
      (pss_one (ps_for PassesOwn.never rfl (pi_list (pe_call (ok_at_once T) (hr.mono (by decide)) (by rfl) T.m_at_once T.F_at_once.kp T.b_at_once .nil pass0 (pa_cons (pv 0) (pa_cons (pv 2) pa_nil)))) (pg_name (i := 6) sc_causes.nd rfl (Or.inl rfl))
      (pss_one (ps_if (pt_cmp (pc_dnotin (hu_of hr) (pv 6) (pv 3)))
      (pss_cons (ps_dput (hu_of hr) (pv 3) (pv 6) (pv 2) rfl)
      (pss_one (ps_expr (pe_bm PySem.F.plainAttrs_list PySem.F.slot_list_append PySem.F.type_list_append mt_append (pv 5) (pa_cons (pv 6) pa_nil)))))
      pss_nil)))))
      (pss_one (ps_set (i := 4) sc_causes.nd rfl (Or.inl rfl) (pv 5))))))
      (pss_one (ps_ret (pv 3)))))), ?_⟩
    -- found = {demand: None for demand in demands}
    refine ⟨_, rfl, l, rfl, ⟨_, hl⟩, fun D nD => ?_⟩
    refine dt_it (walk_list (xs := xs)) (fun i H' => Same H H' ∧ ∃ (kvs : List (List Key × V)) (es : List (Str × Str)), H' D = some (.dT kvs) ∧ kvs.map (·.1) = es.map key2 ∧ es.Nodup ∧ (∀ d, d ∈ es ↔ d ∈ ds.take i) ∧ Pars H' us ds kvs) ⟨same_upd nD, [], [], upd_same, rfl, List.nodup_nil, fun d => Iff.rfl, fun d v e => nomatch e⟩ (fun i H' _ h => SqL.ext hl h.1) ?_ ?_
    · rintro i x H1 H1' hi ⟨s1, kvs, es, w1, hk, hn, hm, hpr⟩ ⟨rfl, hx⟩
      obtain ⟨t, d, rfl, hd, ht⟩ := hP.get hx
      have few := wd_few hN hn fun d hd => hW d (List.mem_of_mem_take ((hm d).mp hd))
      refine ⟨rfl, yes_of (iteT ⟨_, rfl, kvs, key2 d, t, rfl, s1 _ _ ht, w1, by rw [len2 hk]; exact small1000 (by omega), ?_⟩)⟩
      refine ⟨Same.own (q := D) s1 (mut_keep rfl) nD, _, if d ∈ es then es else es ++ [d], upd_same, ?_, ?_, fun e => ?_, ?_⟩
      · by_cases c : d ∈ es
        · rw [if_pos c]
          exact put2_old hk c _
        · rw [if_neg c]
          exact put2_new hk c _
      · by_cases c : d ∈ es
        · rw [if_pos c]
          exact hn
        · rw [if_neg c]
          exact snoc_nodup hn c
      · rw [take_snoc hd, List.mem_append, List.mem_singleton, ← hm e]
        by_cases c : d ∈ es
        · rw [if_pos c]
          exact ⟨.inl, fun z => z.elim id fun z => z ▸ c⟩
        · rw [if_neg c, List.mem_append, List.mem_singleton]
      · exact (hpr.keep (mut_keep rfl) (UD.NotTup.dT w1)).put (.inl ⟨lv0.mpr (List.mem_of_getElem? hd), rfl⟩)
    rintro H1 ⟨s1, kvs, es, w1, hk, hn, hm, hpr⟩
    rw [hP.len, List.take_length] at hm
    -- front = list(found)
    refine ⟨_, rfl, D, kvs, rfl, .inl w1, fun f bs nf isk => ?_⟩
    have pf := keys_prH isk hk
    generalize hE2 : upd H1 f _ = H2
    have w2 := new_at hE2
    have s2 := new_same hE2 nf
    have nDf : D ≠ f := ne_some w1 nf
    refine ⟨fun m σ H' => Same H H' ∧ ∃ (i : Nat) (kvs : List (List Key × V)) (es : List (Str × Str)) (f : Addr) (fxs : List V) (fs : List (Str × Str)) (y2 y5 y6 : Option V), H' D = some (.dT kvs) ∧ kvs.map (·.1) = es.map key2 ∧ es.Nodup ∧ (∀ d, d ∈ es ↔ ∃ m, m ≤ i ∧ Lv us ds m d) ∧ Pars H' us ds kvs ∧ H' f = some (.lst fxs) ∧ PrH H' fxs fs ∧ (∀ d, d ∈ fs ↔ Lv us ds i d) ∧ m = 2 * (40 - es.length) + (if fs = [] then 0 else 1) ∧
        σ = [some (.ref p), some (.ref l), y2, some (.ref D), some (.ref f), y5, y6],
      ⟨_, s1.trans s2, 0, kvs, es, f, _, es, none, none, none, s2 _ _ w1, hk, hn, fun d => ?_, hpr.same s2, w2, pf.same s2, fun d => (hm d).trans lv0.symm, rfl, rfl⟩, ?_⟩
    · rw [hm, ← lv0 (us := us) (ds := ds)]
      refine ⟨fun h => ⟨0, Nat.le_refl _, h⟩, fun ⟨m, h0, h⟩ => ?_⟩
      obtain rfl : m = 0 := by omega
      exact h
    clear w2 s2 nDf hE2 pf isk nf bs f hm hn hk w1 s1 hpr
    rintro m σ H3 ⟨s3, lv, kvs, es, f, fxs, fs, y2, y5, y6, w3, hk, hn, hes, hpr, wf, pf, hfs, rfl, rfl⟩
    have wdE : ∀ d ∈ es, WD us d := fun d hd => by
      obtain ⟨m, _, h⟩ := (hes d).mp hd
      exact near_wd hW h.1
    have few := wd_few hN hn wdE
    refine ⟨_, rfl, f, _, rfl, .inl (SqL.of wf), _, _, rfl, rfl, _, rfl, ?_⟩
    rw [pf.len]
    by_cases c : fs = []
    · subst c
      refine iteNd (by decide) ⟨_, rfl, q D kvs es H3 nD s3 w3 hk hn (lv_all hes fun d hd => nomatch (hfs d).mpr hd) hpr⟩
    have hpos : 0 < fs.length := List.length_pos_iff.mpr c
    refine iteYd (by omega) ⟨_, fun σ' H' h => h, ?_⟩
    -- reached = []
    refine ⟨by show 0 ≤ sizeLine; decide, fun R nR => ?_⟩
    generalize hE4 : upd H3 R _ = H4
    have wR := new_at hE4
    have s4 := new_same hE4 nR
    have nRH : H R = none := s3.free nR
    have nDR : D ≠ R := ne_some w3 nR
    have nfR : f ≠ R := ne_some wf nR
    have nDf : D ≠ f := fun e => by rw [e, wf] at w3; cases w3
    -- for demand in front
    refine ⟨_, rfl, f, rfl, ⟨_, SqL.of (s4 _ _ wf)⟩, for_list (xs := fxs) (fun i σ H' => Same H H' ∧ H' f = some (.lst fxs) ∧ PrH H' fxs fs ∧ ∃ (kv : List (List Key × V)) (rxs : List V) (rs : List (Str × Str)) (y2 y6 : Option V), H' D = some (.dT kv) ∧ kv.map (·.1) = (es ++ rs).map key2 ∧ (es ++ rs).Nodup ∧ (∀ d ∈ rs, Lv us ds (lv + 1) d) ∧ Pars H' us ds kv ∧ H' R = some (.lst rxs) ∧ PrH H' rxs rs ∧ (∀ a ∈ fs.take i, ∀ b ∈ ao us a, b ∈ es ++ rs) ∧
          σ = [some (.ref p), some (.ref l), y2, some (.ref D), some (.ref f), some (.ref R), y6])
      ⟨s3.trans s4, s4 _ _ wf, pf.same s4, kvs, [], [], _, _, s4 _ _ w3, by rw [List.append_nil]; exact hk, by rw [List.append_nil]; exact hn, (fun d hd => nomatch hd), hpr.same s4, wR, .nil, (fun a ha => nomatch ha), rfl⟩ (fun i σ H' _ h => SqL.of h.2.1) ?_ ?_⟩
    · rintro i x σ H5 hi ⟨s5, wf5, pf5, kv, rxs, rs, y2, y6, w5, hk5, hn5, hr5, hpr5, wR5, pR5, hcl5, rfl⟩
      obtain ⟨t, a, rfl, ha, ht⟩ := pf5.get hi
      have haL : Lv us ds lv a := (hfs a).mp (List.mem_of_getElem? ha)
      have hawd := near_wd hW haL.1
      -- for other in at_once(shelf, demand)
      refine ⟨_, rfl, _, rfl, p, t, us, a, rfl, hS.same s5, hN, hF, SqT.of ht, hawd.1, fun L lxs H6 nL s6 wL pL => ?_⟩
      have nDL : D ≠ L := ne_some w5 nL
      have nRL : R ≠ L := ne_some wR5 nL
      have nfL : f ≠ L := ne_some wf5 nL
      refine ⟨L, rfl, ⟨_, SqL.of wL⟩, for_list (xs := lxs) (fun j σ H' => Same H H' ∧ H' f = some (.lst fxs) ∧ PrH H' fxs fs ∧ H' L = some (.lst lxs) ∧ PrH H' lxs (ao us a) ∧ H' t = some (.tup [.str a.1, .str a.2]) ∧ ∃ (kv : List (List Key × V)) (rxs : List V) (rs : List (Str × Str)) (y6 : Option V), H' D = some (.dT kv) ∧ kv.map (·.1) = (es ++ rs).map key2 ∧ (es ++ rs).Nodup ∧ (∀ d ∈ rs, Lv us ds (lv + 1) d) ∧ Pars H' us ds kv ∧ H' R = some (.lst rxs) ∧ PrH H' rxs rs ∧ (∀ a ∈ fs.take i, ∀ b ∈ ao us a, b ∈ es ++ rs) ∧ (∀ b ∈ (ao us a).take j, b ∈ es ++ rs) ∧
            σ = [some (.ref p), some (.ref l), some (.ref t), some (.ref D), some (.ref f), some (.ref R), y6])
        ⟨s5.trans s6, s6 _ _ wf5, pf5.same s6, wL, pL, s6 _ _ ht, kv, rxs, rs, _, s6 _ _ w5, hk5, hn5, hr5, hpr5.same s6, s6 _ _ wR5, pR5.same s6, hcl5, (fun b hb => nomatch hb), rfl⟩ (fun j σ H' _ h => SqL.of h.2.2.2.1) ?_ ?_⟩
      · rintro j x σ H7 hj ⟨s7, wf7, pf7, wL7, pL7, ht7, kv, rxs, rs, y6, w7, hk7, hn7, hr7, hpr7, wR7, pR7, hcl7, hin7, rfl⟩
        obtain ⟨u, b, rfl, hb, hu⟩ := pL7.get hj
        have hbao : b ∈ ao us a := List.mem_of_getElem? hb
        have few7 := wd_few hN hn7 fun d hd => (List.mem_append.mp hd).elim (wdE d) fun z => near_wd hW (hr7 d z).1
        have rsl : rs.length ≤ 32 := by
          rw [List.length_append] at few7
          omega
        refine ⟨_, rfl, _, rfl, D, _, rfl, DGet.t (k := key2 b) w7 hu, _, rfl, ?_⟩
        rw [val2 hk7]
        by_cases c2 : b ∈ es ++ rs
        · rw [decide_eq_true c2]
          refine iteF ⟨s7, wf7, pf7, wL7, pL7, ht7, kv, rxs, rs, _, w7, hk7, hn7, hr7, hpr7, wR7, pR7, hcl7, fun e he => ?_, rfl⟩
          rw [take_snoc hb] at he
          rcases List.mem_append.mp he with he | he
          · exact hin7 e he
          · rw [List.mem_singleton.mp he]
            exact c2
        rw [decide_eq_false c2]
        have hbL : Lv us ds (lv + 1) b := lv_new hes haL hbao fun z => c2 (List.mem_append_left _ z)
        refine iteT ?_
        refine ⟨_, rfl, _, rfl, _, rfl, D, _, rfl, DPut.t (k := key2 b) w7 hu (by rw [len2 hk7]; exact small1000 (by omega)), ?_⟩
        generalize hE8 : upd H7 D _ = H8
        have w8 := new_at hE8
        have m8 := mut_keep hE8
        have nt8 : NotTup H7 D := UD.NotTup.dT w7
        have wR8 := m8 _ _ wR7 nDR.symm
        refine ⟨_, rfl, .inl ⟨rfl, _, SqL.of wR8⟩, _, rfl, R, _, _, rfl, rfl, wR8, by rw [pR7.len]; exact small1000 (by omega), ?_⟩
        generalize hE9 : upd H8 R _ = H9
        have w9 := new_at hE9
        have m9 := mut_keep hE9
        have nt9 : NotTup H8 R := .lst wR8
        have tk : ∀ {c : Addr} {o : HO}, H7 c = some o → c ≠ D → c ≠ R → H9 c = some o := fun h h1 h2 => m9 _ _ (m8 _ _ h h1) h2
        have hu9 : H9 u = some (.tup [.str b.1, .str b.2]) := tk hu (nt8.ne hu) (fun e => by rw [e, wR7] at hu; cases hu)
        have ht9 : H9 t = some (.tup [.str a.1, .str a.2]) := tk ht7 (nt8.ne ht7) (fun e => by rw [e, wR7] at ht7; cases ht7)
        have app : es ++ (rs ++ [b]) = (es ++ rs) ++ [b] := (List.append_assoc ..).symm
        refine ⟨Same.own (Same.own s7 m8 nD) m9 nRH, tk wf7 nDf.symm nfR, (pf7.keep m8 nt8).keep m9 nt9, tk wL7 nDL.symm nRL.symm, (pL7.keep m8 nt8).keep m9 nt9, ht9, _, _, rs ++ [b], _, m9 _ _ w8 nDR, ?_, ?_, fun d hd => ?_, ?_, w9, ((pR7.keep m8 nt8).keep m9 nt9).app (.cons hu9 .nil), fun e he b' hb' => ?_, fun e he => ?_, rfl⟩
        · rw [app]
          exact put2_new hk7 c2 _
        · rw [app]
          exact snoc_nodup hn7 c2
        · rcases List.mem_append.mp hd with hd | hd
          · exact hr7 d hd
          · rw [List.mem_singleton.mp hd]
            exact hbL
        · exact ((hpr7.keep m8 nt8).keep m9 nt9).put (.inr ⟨lv, t, a, hbL, rfl, ht9, haL, hbao⟩)
        · rw [app]
          exact List.mem_append_left _ (hcl7 e he b' hb')
        · rw [app]
          rw [take_snoc hb] at he
          rcases List.mem_append.mp he with he | he
          · exact List.mem_append_left _ (hin7 e he)
          · exact List.mem_append_right _ he
      · rintro σ H7 ⟨s7, wf7, pf7, wL7, pL7, ht7, kv, rxs, rs, y6, w7, hk7, hn7, hr7, hpr7, wR7, pR7, hcl7, hin7, rfl⟩
        rw [pL7.len, List.take_length] at hin7
        refine ⟨s7, wf7, pf7, kv, rxs, rs, _, _, w7, hk7, hn7, hr7, hpr7, wR7, pR7, fun e he b' hb' => ?_, rfl⟩
        rw [take_snoc ha] at he
        rcases List.mem_append.mp he with he | he
        · exact hcl7 e he b' hb'
        · rw [List.mem_singleton.mp he] at hb'
          exact hin7 b' hb'
    · rintro σ H5 ⟨s5, wf5, pf5, kv, rxs, rs, y2, y6, w5, hk5, hn5, hr5, hpr5, wR5, pR5, hcl5, rfl⟩
      rw [pf5.len, List.take_length] at hcl5
      obtain ⟨hes', hrs'⟩ := lv_round hes hfs hr5 hcl5
      have few5 := wd_few hN hn5 fun d hd => (List.mem_append.mp hd).elim (wdE d) fun z => near_wd hW (hr5 d z).1
      -- front = reached
      refine ⟨_, rfl, _, ?_, s5, lv + 1, kv, es ++ rs, R, rxs, rs, _, _, _, w5, hk5, hn5, hes', hpr5, wR5, pR5, hrs', rfl, rfl⟩
      rw [if_neg c]
      rw [List.length_append] at few5 ⊢
      by_cases c3 : rs = []
      · rw [if_pos c3, c3]
        show 2 * (40 - (es.length + 0)) + 0 < _
        omega
      · rw [if_neg c3]
        have := List.length_pos_iff.mpr c3
        omega

-- SPLIT
/-! ### chains -/
/-- each follows at once from the one ahead -/
def Ch (us : List (Str × UF)) : List (Str × Str) → Prop
  | a :: b :: r => b ∈ ao us a ∧ Ch us (b :: r)
  | _ => True
theorem prh_rev {H : Hp} {xs : List V} {cs : List (Str × Str)} (h : PrH H xs cs) : PrH H xs.reverse cs.reverse := by
  induction h with
  | nil => exact .nil
  | cons a _ ih =>
    rw [List.reverse_cons, List.reverse_cons]
    exact ih.app (.cons a .nil)
/-- as many as there are levels -/
theorem lv_row {us : List (Str × UF)} {ds : List (Str × Str)} : ∀ {n : Nat} {d : Str × Str}, Lv us ds n d → ∃ cs : List (Str × Str), cs.Nodup ∧ cs.length = n + 1 ∧ ∀ c ∈ cs, ∃ m, m ≤ n ∧ Lv us ds m c
  | 0, d, h => ⟨[d], List.nodup_cons.mpr ⟨List.not_mem_nil, List.nodup_nil⟩, rfl, fun c hc => ⟨0, Nat.le_refl _, by rw [List.mem_singleton.mp hc]; exact h⟩⟩
  | n + 1, d, h => by
    obtain ⟨a, ha, _⟩ := lv_step h
    obtain ⟨cs, hn, hl, hc⟩ := lv_row ha
    refine ⟨d :: cs, List.nodup_cons.mpr ⟨fun z => ?_, hn⟩, by rw [List.length_cons, hl], fun c hcm => ?_⟩
    · obtain ⟨m, hm, hl⟩ := hc d z
      have := hl.uniq h
      omega
    · rcases List.mem_cons.mp hcm with rfl | hcm
      · exact ⟨n + 1, Nat.le_refl _, h⟩
      · obtain ⟨m, hm, hl⟩ := hc c hcm
        exact ⟨m, by omega, hl⟩
theorem lv_few {us : List (Str × UF)} {ds es : List (Str × Str)} {n : Nat} {d : Str × Str} (h : Lv us ds n d) (he : ∀ d n, Lv us ds n d → d ∈ es) : n < es.length := by
  obtain ⟨cs, hn, hl, hc⟩ := lv_row h
  have := nodup_le cs es hn fun c hcm => by
    obtain ⟨m, _, h⟩ := hc c hcm
    exact he c m h
  omega
def DTat (H : Hp) (D : Addr) (kvs : List (List Key × V)) : Prop := H D = some (.dT kvs) ∨ ∃ od, H D = some (.frz od (.dT kvs))
theorem DTat.same {H H' : Hp} {D : Addr} {kvs : List (List Key × V)} (h : DTat H D kvs) (s : Same H H') : DTat H' D kvs := h.imp (s _ _) fun ⟨od, h⟩ => ⟨od, s _ _ h⟩
def sp_chain_to (K : PySem.W.Frag) : Sp := fun vs H Q _ => ∃ (D g : Addr) (us : List (Str × UF)) (ds : List (Str × Str)) (kvs : List (List Key × V)) (goal : Str × Str) (n : Nat), vs = [.ref D, .ref g] ∧ DTat H D kvs ∧ H g = some (.tup [.str goal.1, .str goal.2]) ∧ Pars H us ds kvs ∧ (∀ d n, Lv us ds n d → (valV kvs (key2 d)).isSome = true) ∧ Lv us ds n goal ∧ n ≤ 100 ∧
  ∀ L xs cs H', H L = none → Same H H' → H' L = some (.lst xs) → PrH H' xs cs → cs.length = n + 1 → (∀ c, cs.head? = some c → c ∈ ds) → cs.getLast? = some goal → Ch us cs → Q (.ref L) H'
theorem ok_chain_to (T : Txt K mg) : FnOk P w K mg base CX0 1 (He.fAd K ("chain_to", none)) T.d_chain_to ["found", "goal"] (sp_chain_to K) := by
  refine T.F_chain_to.ok sc_chain_to (fun vs H Q E h => ?_) (fun cdv A outer s H vs Q E hr h => ?_)
  · obtain ⟨D, g, us, ds, kvs, goal, n, rfl, _⟩ := h
    rfl
  · obtain ⟨D, g, us, ds, kvs, goal, n, rfl, wD, wg, hpr, hall, hL, hn, q⟩ := h
    refine ⟨_, PSs.nox (pss_cons (ps_set (i := 2) sc_chain_to.nd rfl (Or.inl rfl) (pe_lst pa_nil))
      (pss_cons (ps_set (i := 3) sc_chain_to.nd rfl (Or.inl rfl) (pv 1))
      (pss_cons (ps_while PassesOwn.never (pt_cmpR op_notN (pv 3) pe_non (nomark _))
      (pss_cons (ps_expr (pe_bm PySem.F.plainAttrs_list PySem.F.slot_list_append PySem.F.type_list_append mt_append (pv 2) (pa_cons (pv 3) pa_nil)))
      (pss_one (ps_set (i := 3) sc_chain_to.nd rfl (Or.inl rfl) (pe_dget (hu_of hr) (pv 0) (pv 3) (fun _ _ => rfl))))))
      (pss_one (ps_ret (pe_revL (pv 2))))))), ?_⟩
    refine ⟨by show 0 ≤ sizeLine; decide, fun Lk nLk => ?_⟩
    generalize hE1 : upd H Lk _ = H1
    have w1 := new_at hE1
    have s1 := new_same hE1 nLk
    refine ⟨_, rfl, ?_⟩
    refine ⟨fun m σ H' => Same H H' ∧ ∃ (xs : List V) (ls : List (Str × Str)) (y : V), H' Lk = some (.lst xs) ∧ PrH H' xs ls ∧ σ = [some (.ref D), some (.ref g), some (.ref Lk), some y] ∧
        ((∃ (t : Addr) (a : Str × Str) (k : Nat), y = .ref t ∧ H' t = some (.tup [.str a.1, .str a.2]) ∧ Lv us ds k a ∧ ls.length + k = n ∧ Ch us (a :: ls.reverse) ∧ (a :: ls.reverse).getLast? = some goal ∧ m = k + 1) ∨
         (y = .non ∧ ls.length = n + 1 ∧ (∀ c, ls.reverse.head? = some c → c ∈ ds) ∧ ls.reverse.getLast? = some goal ∧ Ch us ls.reverse ∧ m = 0)),
      ⟨_, s1, [], [], .ref g, w1, .nil, rfl, .inl ⟨g, goal, n, rfl, s1 _ _ wg, hL, Nat.zero_add n, trivial, rfl, rfl⟩⟩, ?_⟩
    clear w1 s1 hE1
    rintro m σ H2 ⟨s2, xs, ls, y, w2, p2, rfl, hy⟩
    refine ⟨_, rfl, rfl, _, rfl, ?_⟩
    rcases hy with ⟨t, a, k, rfl, ht, ha, hlen, hch, hlast, rfl⟩ | ⟨rfl, hlen, hhead, hlast, hch, rfl⟩
    · refine iteT ⟨_, fun σ' H' h => h, ?_⟩
      refine ⟨_, rfl, .inl ⟨rfl, _, SqL.of w2⟩, _, rfl, Lk, _, _, rfl, rfl, w2, by rw [p2.len]; exact small1000 (by omega), ?_⟩
      generalize hE3 : upd H2 Lk _ = H3
      have w3 := new_at hE3
      have m3 := mut_keep hE3
      have nt3 : NotTup H2 Lk := .lst w2
      have s3 : Same H H3 := Same.own s2 m3 nLk
      have ht3 := m3 _ _ ht (nt3.ne ht)
      have p3 : PrH H3 (xs ++ [.ref t]) (ls ++ [a]) := (p2.keep m3 nt3).app (.cons ht3 .nil)
      obtain ⟨v, hv⟩ := Option.isSome_iff_exists.mp (hall a k ha)
      refine ⟨_, rfl, _, rfl, D, v, rfl, hv ▸ Or.inr ⟨kvs, key2 a, t, wD.same s3, rfl, ht3, rfl⟩, ?_⟩
      have rev : (ls ++ [a]).reverse = a :: ls.reverse := by rw [List.reverse_append]; rfl
      rcases hpr.same s3 a v hv with ⟨h0, rfl⟩ | ⟨m, t', a', h1, rfl, ht', ha', hao⟩
      · obtain rfl := ha.uniq h0
        refine ⟨0, by omega, s3, _, ls ++ [a], .non, w3, p3, rfl, .inr ⟨rfl, by rw [List.length_append]; show ls.length + 1 = n + 1; omega, fun c hc => ?_, by rw [rev]; exact hlast, by rw [rev]; exact hch, rfl⟩⟩
        rw [rev] at hc
        cases hc
        exact lv0.mp h0
      · obtain rfl := ha.uniq h1
        refine ⟨m + 1, by omega, s3, _, ls ++ [a], .ref t', w3, p3, rfl, .inl ⟨t', a', m, rfl, ht', ha', by rw [List.length_append]; show ls.length + 1 + m = n; omega, by rw [rev]; exact ⟨hao, hch⟩, ?_, rfl⟩⟩
        rw [rev, List.getLast?_cons_cons]
        exact hlast
    · refine iteF ?_
      refine ⟨_, rfl, Lk, _, rfl, SqL.of w2, fun L nL => ?_⟩
      have s3 : Same H2 (upd H2 L (.lst xs.reverse)) := same_upd nL
      exact q L _ ls.reverse _ (s2.free nL) (s2.trans s3) upd_same ((prh_rev p2).same s3) (by rw [List.length_reverse]; exact hlen) hhead hlast hch

-- SPLIT
/-! ### a shortest chain -/
def sp_chain (K : PySem.W.Frag) : Sp := fun vs H Q _ => ∃ (p l g : Addr) (us : List (Str × UF)) (xs : List V) (ds : List (Str × Str)) (goal : Str × Str), vs = [.ref p, .ref l, .ref g] ∧ ShelfAt K H p us ∧ Nms us ∧ (∀ p ∈ us, p.2.needs.length ≤ 100) ∧ SqL K H l xs ∧ PrH H xs ds ∧ (∀ d ∈ ds, WD us d) ∧ H g = some (.tup [.str goal.1, .str goal.2]) ∧
  (∀ n, Lv us ds n goal → ∀ L xs cs H', H L = none → Same H H' → H' L = some (.lst xs) → PrH H' xs cs → cs.length = n + 1 → n ≤ 100 → (∀ c, cs.head? = some c → c ∈ ds) → cs.getLast? = some goal → Ch us cs → Q (.ref L) H') ∧
  ((∀ n, ¬ Lv us ds n goal) → ∀ H', Same H H' → Q .non H')
theorem ok_chain (T : Txt K mg) : FnOk P w K mg base CX0 6 (He.fAd K ("chain", none)) T.d_chain ["shelf", "demands", "goal"] (sp_chain K) := by
  refine T.F_chain.ok sc_chain (fun vs H Q E h => ?_) (fun cdv A outer s H vs Q E hr h => ?_)
  · obtain ⟨p, l, g, us, xs, ds, goal, rfl, _⟩ := h
    rfl
  · obtain ⟨p, l, g, us, xs, ds, goal, rfl, hS, hN, hF, hl, hP, hW, wg, q1, q2⟩ := h
    refine ⟨_, PSs.nox (pss_cons (ps_set (i := 3) sc_chain.nd rfl (Or.inl rfl) (pe_call (ok_causes T) (hr.mono (by decide)) (by rfl) T.m_causes T.F_causes.kp T.b_causes .nil pass0 (pa_cons (pv 0) (pa_cons (pv 1) pa_nil))))
      (pss_one (ps_ret (pe_mid (pe_ifExp (pt_cmp (pc_din (hu_of hr) (pv 2) (pv 3))) (pe_call (ok_chain_to T) (hr.mono (by decide)) (by rfl) T.m_chain_to T.F_chain_to.kp T.b_chain_to .nil pass0 (pa_cons (pv 3) (pa_cons (pv 2) pa_nil))) pe_non))))), ?_⟩
    refine ⟨_, rfl, _, rfl, p, l, us, xs, ds, rfl, hS, hN, hF, hl, hP, hW, fun D kvs es H1 nD s1 w1 hk hn hm hpr => ?_⟩
    have few := wd_few hN hn fun d hd => by
      obtain ⟨n, h⟩ := (hm d).mp hd
      exact near_wd hW h.1
    have hall : ∀ d n, Lv us ds n d → (valV kvs (key2 d)).isSome = true := fun d n h => by
      rw [val2 hk]
      exact decide_eq_true ((hm d).mpr ⟨n, h⟩)
    have wg1 := s1 _ _ wg
    refine ⟨fun v H' => Q v H', ?_, fun v H' h => h⟩
    refine ⟨_, rfl, _, rfl, D, _, rfl, DGet.t (k := key2 goal) w1 wg1, _, rfl, ?_⟩
    rw [val2 hk]
    by_cases c : goal ∈ es
    · rw [decide_eq_true c]
      obtain ⟨n, hL⟩ := (hm goal).mp c
      have hn := lv_few hL fun d n h => (hm d).mpr ⟨n, h⟩
      refine iteT ⟨_, rfl, _, rfl, D, g, us, ds, kvs, goal, n, rfl, .inl w1, wg1, hpr, hall, hL, by omega, fun L ys cs H2 nL s2 wL pL hlen hh hlast hch => ?_⟩
      exact q1 n hL L ys cs H2 (s1.free nL) (s1.trans s2) wL pL hlen (by omega) hh hlast hch
    · rw [decide_eq_false c]
      exact iteF (q2 (fun n h => c ((hm goal).mpr ⟨n, h⟩)) H1 s1)

-- SPLIT
/-! ### all that follows, where nothing lacks -/
theorem near_reach {us : List (Str × UF)} {ds : List (Str × Str)} {n : Nat} {d : Str × Str} (h : Near us ds n d) : Reach us ds d := by
  induction h with
  | base h => exact .base h
  | step _ g ih => exact .step ih g
theorem reach_lv {us : List (Str × UF)} {ds : List (Str × Str)} {d : Str × Str} : (∃ n, Lv us ds n d) ↔ Reach us ds d := by
  refine ⟨fun ⟨n, h⟩ => near_reach h.1, fun h => ?_⟩
  have : ∃ n, Near us ds n d := by
    induction h with
    | base h => exact ⟨0, .base h⟩
    | step _ g ih =>
      obtain ⟨n, h⟩ := ih
      exact ⟨n + 1, .step h g⟩
  obtain ⟨n, h⟩ := this
  obtain ⟨m, _, h⟩ := near_lv h
  exact ⟨m, h⟩
def NoLack (us : List (Str × UF)) (ds : List (Str × Str)) : Prop := ∀ d, Reach us ds d → d.2 = onS → ∀ u, fu us d.1 = some u → ∀ x ∈ u.needs, x ∈ us.map (·.1)
def sp_followed (K : PySem.W.Frag) : Sp := fun vs H Q _ => ∃ (p l : Addr) (us : List (Str × UF)) (xs : List V) (ds : List (Str × Str)), vs = [.ref p, .ref l] ∧ ShelfAt K H p us ∧ Nms us ∧ (∀ p ∈ us, p.2.needs.length ≤ 100) ∧ SqL K H l xs ∧ PrH H xs ds ∧ (∀ d ∈ ds, WD us d) ∧ NoLack us ds ∧
  ∀ D ys (es : List (Str × Str)) H', H D = none → Same H H' → H' D = some (.lst ys) → PrH H' ys (srtP es) → es.Nodup → (∀ d, d ∈ es ↔ Reach us ds d) → Q (.ref D) H'
theorem frz_same {H0 H H1 H2 H3 : Hp} {d : Addr} {u : HO} {o : Obj} (s0 : Same H0 H) (nd : H0 d = none) (e1 : upd H d (.frz o u) = H1) (s : Same H1 H2) (e3 : upd H2 d u = H3) : Same H0 H1 ∧ Same H0 H2 ∧ Same H0 H3 :=
  ⟨Same.own s0 (mut_keep e1) nd, (Same.own s0 (mut_keep e1) nd).trans s, Same.own ((Same.own s0 (mut_keep e1) nd).trans s) (mut_keep e3) nd⟩
theorem ok_followed (T : Txt K mg) : FnOk P w K mg base CX0 6 (He.fAd K ("followed", none)) T.d_followed ["shelf", "demands"] (sp_followed K) := by
  refine T.F_followed.ok sc_followed (fun vs H Q E h => ?_) (fun cdv A outer s H vs Q E hr h => ?_)
  · obtain ⟨p, l, us, xs, ds, rfl, _⟩ := h
    rfl
  · obtain ⟨p, l, us, xs, ds, rfl, hS, hN, hF, hl, hP, hW, hNo, q⟩ := h
    refine ⟨_, PSs.nox (pss_cons (ps_set (i := 2) sc_followed.nd rfl (Or.inl rfl) (pe_call (ok_causes T) (hr.mono (by decide)) (by rfl) T.m_causes T.F_causes.kp T.b_causes .nil pass0 (pa_cons (pv 0) (pa_cons (pv 1) pa_nil))))
      (pss_cons (ps_lock (ps_for PassesOwn.never rfl (pi_keys (pv 2)) (pg_tup rfl (pgs_cons (pg_name (i := 3) sc_followed.nd rfl (Or.inl rfl)) (pgs_cons (pg_name (i := 4) sc_followed.nd rfl (Or.inl rfl)) pgs_nil)))
      (pss_cons (ps_set (i := 5) sc_followed.nd rfl (Or.inl rfl) (pe_mid (pe_ifExp (pt_cmpR op_eq (pv 4) pe_str (nomark _)) (pe_fld (pe_meth (pv 0) T.cl_Shelf T.me_Shelf_unit (ok_Shelf_unit T) (hr.mono (by decide)) T.b_Shelf_unit .nil pass0 (pa_cons (pv 3) pa_nil)) rfl) (pe_tup pa_nil))))
      (pss_cons (ps_setLc (i := 6) (own := [("other", 7)]) (by rfl) sc_followed.nd rfl rfl (sw_true rfl rfl rfl (by decide +kernel)) (pi_tup (pv 5)) (blkOk_by (own := [("other", 7)]) (N := N_followed) (sc := defScope s_followed) (by decide +kernel)) (fun _ _ _ _ _ => (pg_name (i := 7) sc_followed.nd rfl (Or.inl rfl))) (fun _ _ _ _ _ => by exact (pts_one (pt_not (pt_val (pe_meth (pv 0) T.cl_Shelf T.me_Shelf_has (ok_Shelf_has T) (hr.mono (by decide)) T.b_Shelf_has .nil pass0 (pa_cons (pv 7) pa_nil)))))) (fun _ _ _ _ _ => (pv 7)))
      (pss_one (ps_if (pt_cmpR op_gt (pe_callB (id := "len")  call_len_seq (by rfl) T.n_len (by decide +kernel) (pa_cons (pv 6) pa_nil)) pe_int (nomark _))
      (pss_one ps_never)
      pss_nil))))))
      (pss_one (ps_ret (pe_callB (id := "sorted")  (UD.cr_sortDT rfl hr.units) (by rfl) T.n_sorted (by decide +kernel) (pa_cons (pv 2) pa_nil)))))), ?_⟩
    refine ⟨_, rfl, _, rfl, p, l, us, xs, ds, rfl, hS, hN, hF, hl, hP, hW, fun D kvs es H1 nD s1 w1 hk hn hmL hpr => ?_⟩
    have hm : ∀ d, d ∈ es ↔ Reach us ds d := fun d => (hmL d).trans reach_lv
    have few := wd_few hN hn fun d hd => reach_wd hW ((hm d).mp hd)
    refine ⟨D, _, w1, trivial, fun od => ?_⟩
    generalize hE2 : upd H1 D _ = H2
    have w2 := new_at hE2
    have s02 : Same H H2 := Same.own s1 (mut_keep hE2) nD
    refine ⟨_, rfl, D, od, rfl, .inr ⟨kvs, w2, ?_⟩⟩
    refine for_it walk_keysT (fun i σ H' => Same H2 H' ∧ ∃ y3 y4 y5 y6 y7 : Option V, σ = [some (.ref p), some (.ref l), some (.ref D), y3, y4, y5, y6, y7]) ⟨Same.refl _, _, _, _, _, _, rfl⟩ (fun i σ H' _ h => h.1 _ _ w2) ?_ ?_
    · rintro i x σ H3 H3' hi ⟨s3, y3, y4, y5, y6, y7, rfl⟩ ⟨rfl, k, v, t, hkv, rfl, ht⟩
      obtain ⟨d, hd, hde⟩ : ∃ d, es[i]? = some d ∧ k = key2 d := by
        have e1 : (kvs.map (·.1))[i]? = some k := by rw [List.getElem?_map, hkv]; rfl
        rw [hk, List.getElem?_map] at e1
        cases e2 : es[i]? with
        | none => rw [e2] at e1; cases e1
        | some d => rw [e2] at e1; exact ⟨d, rfl, (Option.some.inj e1).symm⟩
      subst hde
      have hdr : Reach us ds d := (hm d).mp (List.mem_of_getElem? hd)
      have hwd := reach_wd hW hdr
      have s03 := s02.trans s3
      refine ⟨t, _, rfl, SqT.of ht, rfl, _, _, rfl, _, _, rfl, rfl, ?_⟩
      obtain ⟨dx, dd, kv0, hp, _⟩ := id (hS.same s03)
      -- needs
      refine ⟨fun v H' => Same H3' H' ∧ ∃ (tn : Addr) (zs : List Str), v = .ref tn ∧ SqT K H' tn (zs.map V.str) ∧ ∀ x ∈ zs, x ∈ us.map (·.1), ?_, ?_⟩
      · refine ⟨_, rfl, rfl, _, rfl, ?_⟩
        show if decide (V.str d.2 = V.str onS) = true then _ else _
        by_cases c : d.2 = onS
        · rw [show decide (V.str d.2 = V.str onS) = true from decide_eq_true (by rw [c])]
          refine iteT ⟨_, rfl, p, dx, _, rfl, hp, rfl, _, rfl, p, d.1, us, rfl, hS.same s03, hN, hwd.1, fun a u hu hA => ?_⟩
          obtain ⟨dxu, n1, n2, n3, n4, r, ha, hn1, _⟩ := id hA
          exact ⟨a, _, dxu, _, _, rfl, ha, T.cl_Unit, T.na_Unit_needs, rfl, Same.refl _, n1, u.needs, rfl, hn1, hNo d hdr c u (fu_some hN.nd hu)⟩
        · rw [show decide (V.str d.2 = V.str onS) = false from decide_eq_false fun z => c (by injection z)]
          exact iteF ⟨by show 0 ≤ sizeLine; decide, fun t2 n2 => ⟨same_upd n2, t2, [], rfl, SqT.of upd_same, fun x hx => nomatch hx⟩⟩
      rintro v H4 ⟨s4, tn, zs, rfl, htn, hzs⟩
      -- missing
      refine ⟨_, rfl, tn, rfl, ⟨_, htn⟩, fun Dm nDm => ?_⟩
      refine lc_tup (xs := zs.map V.str) (fun i H' => Same H4 H' ∧ H' Dm = some (.lst [])) ⟨same_upd nDm, upd_same⟩ (fun i H' _ h => tup_same h.1 htn) ?_ ?_
      · rintro j x H5 hj ⟨s5, w5⟩
        obtain ⟨o, ho, rfl⟩ := map_str_get hj
        have s05 := (s03.trans s4).trans s5
        obtain ⟨dx, dd, kv0, hp, _⟩ := id (hS.same s05)
        refine ⟨rfl, _, rfl, p, dx, _, rfl, hp, rfl, _, rfl, p, o, us, rfl, hS.same s05, hN, ?_⟩
        rw [decide_eq_true (hzs o (List.mem_of_getElem? ho))]
        exact ⟨true, rfl, iteF ⟨s5, w5⟩⟩
      rintro H5 ⟨s5, w5⟩
      refine ⟨_, rfl, Dm, _, rfl, .inl (SqL.of w5), _, _, rfl, rfl, _, rfl, iteNd (by decide) ?_⟩
      exact ⟨(s3.trans s4).trans s5, _, _, _, _, _, rfl⟩
    · rintro σ H3 ⟨s3, y3, y4, y5, y6, y7, rfl⟩
      refine ⟨s3 _ _ w2, ?_⟩
      generalize hE4 : upd H3 D _ = H4
      have w4 := new_at hE4
      obtain ⟨_, _, s04⟩ := frz_same s1 nD hE2 s3 hE4
      refine ⟨_, rfl, D, kvs, es, rfl, .inl w4, hk, by omega, fun R ys nR py => ?_⟩
      exact q R ys es _ (s04.free nR) (s04.trans (same_upd nR)) upd_same (py.same (same_upd nR)) hn hm

-- SPLIT
/-! ### the facts, without needs that aren't there -/
def noLk (us : List (Str × UF)) : List (Str × UF) := us.map fun q => (q.1, { q.2 with needs := q.2.needs.filter fun x => decide (x ∈ us.map (·.1)) })
def sp_law_without_lacks (K : PySem.W.Frag) : Sp := fun vs H Q _ => ∃ (d : Addr) (us : List (Str × UF)), vs = [.ref d] ∧ LF K H d us ∧
  ∀ d' H', H d' = none → Same H H' → LF K H' d' (noLk us) → Q (.ref d') H'
theorem ok_law_without_lacks (T : Txt K mg) : FnOk P w K mg base CX0 1 (He.fAd K ("_law_without_lacks", none)) T.d_law_without_lacks ["_law_facts_here"] (sp_law_without_lacks K) := by
  refine T.F_law_without_lacks.ok sc_law_without_lacks (fun vs H Q E h => ?_) (fun cdv A outer s H vs Q E hr h => ?_)
  · obtain ⟨d, us, rfl, _⟩ := h
    rfl
  · obtain ⟨d, us, rfl, hF, q⟩ := h
    refine ⟨_, PSs.nox (pss_cons (ps_set (i := 1) sc_law_without_lacks.nd rfl (Or.inl rfl) pe_dnewK)
      (pss_cons (ps_lock (ps_for PassesOwn.never rfl (pi_keys (pv 0)) (pg_name (i := 2) sc_law_without_lacks.nd rfl (Or.inl rfl))
      (pss_cons (ps_set (i := 3) sc_law_without_lacks.nd rfl (Or.inl rfl) (pe_dget (hu_of hr) (pv 0) (pv 2) (fun _ _ => rfl)))
      (pss_one (ps_dput (hu_of hr) (pv 1) (pv 2) (pe_op op_catA (pe_tup (pa_cons (pe_ix ix_tup (pv 3) pe_int (fun _ _ => rfl)) (pa_cons (pe_callTy (T := "tuple")  call_tuple_of (by rfl) T.n_tuple (by decide +kernel) (pa_cons (pe_lc (own := [("_law_one", 4)]) (by rfl) sc_law_without_lacks.nd (pi_tup (pe_ix ix_tup (pv 3) pe_int (fun _ _ => rfl))) (blkOk_by (own := [("_law_one", 4)]) (N := N_law_without_lacks) (sc := defScope s_law_without_lacks) (by decide +kernel)) (fun _ _ _ _ _ => (pg_name (i := 4) sc_law_without_lacks.nd rfl (Or.inl rfl))) (fun _ _ _ _ _ => (pts_one (pt_cmp (pc_din (hu_of hr) (pv 4) (pv 0))))) (fun _ _ _ _ _ => (pv 4))) pa_nil)) pa_nil))) (pe_slice sl_tupA (pv 3) (po_some pe_int) po_none)) rfl)))))
      (pss_one (ps_ret (pv 1))))), ?_⟩
    obtain ⟨kvs, hd, ht⟩ := hF.ex
    have hN := hF.nms
    have few := hN.few
    have kl : kvs.length = us.length := ht.len
    -- found = {}
    refine fun f nf => ?_
    generalize hE1 : upd H f _ = H1
    have w1 := new_at hE1
    have s1 := new_same hE1 nf
    have nfd : d ≠ f := ne_some hd nf
    -- for word in facts
    refine ⟨d, _, s1 _ _ hd, trivial, fun od => ?_⟩
    generalize hE2 : upd H1 d _ = H2
    have wd := new_at hE2
    have m2 := mut_keep hE2
    refine ⟨_, rfl, d, od, rfl, .inl ⟨kvs, wd, ?_⟩⟩
    refine for_it walk_keys (fun j σ H' => (∀ b o, H b = some o → b ≠ d → H' b = some o) ∧ H' d = some (.frz od (.dK kvs)) ∧ FTab K H' kvs us ∧ (∃ kvs', H' f = some (.dK kvs') ∧ FTab K H' kvs' ((noLk us).take j)) ∧ ∃ y2 y3 y4 : Option V, σ = [some (.ref d), some (.ref f), y2, y3, y4])
      ⟨fun b o hb n => m2 _ _ (s1 _ _ hb) n, wd, FTab.keep (FTab.same ht s1) m2 (.dK (s1 _ _ hd)), ⟨[], m2 _ _ w1 nfd.symm, .nil⟩, _, _, _, rfl⟩ (fun j σ H' _ h => h.2.1) ?_ ?_
    · rintro j x σ H3 H3' hj ⟨k3, wd3, ht3, ⟨kvs', wf3, tf3⟩, y2, y3, y4, rfl⟩ ⟨rfl, ky, v, hkv, rfl⟩
      obtain ⟨o, uo, rfl, huo, _⟩ := ht3.at hkv
      have hom : (o, uo) ∈ us := List.mem_of_getElem? huo
      have jl : j < us.length := (List.getElem?_eq_some_iff.mp huo).1
      obtain ⟨v2, hv2, t2, o1, o2, o3, o4, g2, rfl, wo0, wo1, wo2, wo3, wo4, wo5⟩ := ht3.get hN.nd (o, uo) hom
      have nl : uo.needs.length ≤ 100 := (hF.few _ hom).1
      have nfH3 : H3' f = some (.dK kvs') := wf3
      refine ⟨_, rfl, _, rfl, d, .ref t2, rfl, by rw [← hv2]; exact .inl ⟨kvs, Sum.inr o, .inr ⟨od, wd3⟩, rfl, rfl⟩, ?_⟩
      -- the new row
      refine ⟨_, rfl, t2, _, _, _, rfl, rfl, wo0, atI_nat (j := 0) rfl, ?_⟩
      refine ⟨_, rfl, t2, _, _, _, rfl, rfl, wo0, atI_nat (j := 1) rfl, o1, rfl, ⟨_, wo1⟩, fun D nD => ?_⟩
      refine lc_tup (xs := uo.needs.map V.str) (fun i H' => Same H3' H' ∧ H' D = some (.lst (((uo.needs.take i).filter fun x => decide (x ∈ us.map (·.1))).map V.str))) ⟨same_upd nD, upd_same⟩ (fun i H' _ h => tup_same h.1 wo1) ?_ ?_
      · rintro i z H5 hi ⟨s5, w5⟩
        obtain ⟨c, hc, rfl⟩ := map_str_get hi
        refine ⟨rfl, _, rfl, _, rfl, d, _, rfl, .inl ⟨kvs, Sum.inr c, .inr ⟨od, s5 _ _ wd3⟩, rfl, rfl⟩, _, rfl, ?_⟩
        rw [hN.val (FTab.same ht3 s5), take_filter_snoc _ hc]
        by_cases cin : c ∈ us.map (·.1)
        · rw [decide_eq_true cin]
          refine iteT ⟨_, rfl, _, w5, ?_, Same.own (q := D) s5 (mut_keep rfl) nD, ?_⟩
          · rw [List.length_map]
            exact Nat.lt_of_le_of_lt (List.length_filter_le _ _) (Nat.lt_of_le_of_lt (List.length_take_le' ..) (small1000 (by have h8 : (o, uo).snd.needs.length ≤ 100 := nl; omega)))
          · rw [upd_same, if_pos rfl, List.map_append]
            rfl
        · rw [decide_eq_false cin]
          refine iteF ⟨s5, ?_⟩
          rw [if_neg Bool.false_ne_true, List.append_nil]
          exact w5
      rintro H5 ⟨s5, w5⟩
      rw [List.length_map, List.take_length] at w5
      refine ⟨D, _, rfl, .inl ⟨SqL.of w5, fun tn ntn => ?_⟩⟩
      generalize hE6 : upd H5 tn _ = H6
      have wtn := new_at hE6
      have s6 := s5.trans (new_same hE6 ntn)
      refine ⟨by show 2 ≤ sizeLine; decide, fun ta nta => ?_⟩
      generalize hE7 : upd H6 ta _ = H7
      have wta := new_at hE7
      have s7 := s6.trans (new_same hE7 nta)
      refine ⟨_, rfl, 2, rfl, ?_⟩
      dsimp only [tNoPart]
      refine slA (tup_same s7 wo0) fun tb H8 s8 wtb => ?_
      refine catA (SqT.of (s8 _ _ wta)) wtb (by show 2 + 5 ≤ 1000; decide) fun tt H9 s9 wtt => ?_
      have s39 := s7.trans (s8.trans s9)
      have wf9 := s39 _ _ wf3
      have tf9 := FTab.same tf3 s39
      have lenN : (noLk us).length = us.length := List.length_map _
      have kvl : kvs'.length ≤ 20 := by
        have h1 := tf9.len
        rw [List.length_take, lenN] at h1
        omega
      have names : (noLk us).map (·.1) = us.map (·.1) := by
        unfold noLk
        rw [List.map_map]
        rfl
      have newo : o ∉ ((noLk us).take j).map (·.1) := fun z => by
        rw [List.map_take, names] at z
        obtain ⟨i, hi, e⟩ := List.getElem_of_mem z
        rw [List.length_take] at hi
        rw [List.getElem_take] at e
        have e2 : (us.map (·.1))[j]? = some o := by rw [List.getElem?_map, huo]; rfl
        have e3 : (us.map (·.1))[i]? = some o := by rw [List.getElem?_eq_getElem (by omega), e]
        have := (List.getElem?_inj (by omega) hN.nd).mp (e3.trans e2.symm)
        omega
      refine ⟨_, rfl, _, rfl, f, _, rfl, DPut.k (k := Sum.inr o) wf9 (small1000 (by omega)), ?_⟩
      generalize hE10 : upd H9 f _ = H10
      have wf10 := new_at hE10
      have m10 := mut_keep hE10
      have nt9 : NotTp H9 f := .dK wf9
      rw [putK_new _ (tf9.free newo)] at wf10
      have got : (noLk us)[j]? = some (o, { uo with needs := uo.needs.filter fun x => decide (x ∈ us.map (·.1)) }) := by
        unfold noLk
        rw [List.getElem?_map, huo]
        rfl
      have row : FactS K H10 (.ref tt) { uo with needs := uo.needs.filter fun x => decide (x ∈ us.map (·.1)) } := by
        refine FactS.keep (H := H9) ⟨tt, tn, o2, o3, o4, g2, rfl, ?_, SqT.of (s9 _ _ (s8 _ _ (new_same hE7 nta _ _ wtn))), tup_same s39 wo2, tup_same s39 wo3, tup_same s39 wo4, FiveAt.same wo5 s39⟩ m10 nt9
        exact wtt
      refine ⟨fun b x hb n => ?_, m10 _ _ (s39 _ _ wd3) nfd, FTab.keep (FTab.same ht3 s39) m10 nt9, ⟨_, wf10, ?_⟩, _, _, _, rfl⟩
      · refine m10 _ _ (s39 _ _ (k3 b x hb n)) fun e => ?_
        rw [e, nf] at hb
        cases hb
      · rw [take_snoc got]
        exact (FTab.keep tf9 m10 nt9).app (.cons row .nil)
    · rintro σ H3 ⟨k3, wd3, ht3, ⟨kvs', wf3, tf3⟩, y2, y3, y4, rfl⟩
      refine ⟨wd3, ?_⟩
      generalize hE4 : upd H3 d _ = H4
      have w4 := new_at hE4
      have m4 := mut_keep hE4
      have lenN : (noLk us).length = us.length := List.length_map _
      rw [kl, ← lenN, List.take_length] at tf3
      have names : (noLk us).map (·.1) = us.map (·.1) := by
        unfold noLk
        rw [List.map_map]
        rfl
      refine ⟨_, rfl, q f H4 nf (fun b o hb => ?_) ⟨⟨kvs', m4 _ _ wf3 nfd.symm, FTab.keep tf3 m4 (NotTp.frz wd3)⟩, ⟨by rw [names]; exact hN.nd, by rw [lenN]; have := hN.len; rwa [List.length_map] at this, by rw [names]; exact hN.nm⟩, fun q' hq' => ?_⟩⟩
      · by_cases c : b = d
        · subst c
          rw [hd] at hb
          cases hb
          exact w4
        · exact m4 _ _ (k3 b o hb c) c
      · obtain ⟨q0, hq0, rfl⟩ := List.mem_map.mp hq'
        exact ⟨Nat.le_trans (List.length_filter_le _ _) (hF.few q0 hq0).1, (hF.few q0 hq0).2⟩

/-! ### demands drawn -/
def sp_law_demands (K : PySem.W.Frag) : Sp := fun vs H Q _ => ∃ (p l : Addr) (n : Nat) (ws : List Str), vs = [.ref p, .ref l] ∧ Bag n H p ∧ n < 600000000 ∧ H l = some (.lst (ws.map V.str)) ∧ l ≠ p ∧ 0 < ws.length ∧ ws.length ≤ 20 ∧
  ∀ D xs (ds : List (Str × Str)) H', H D = none → D ≠ p → H' D = some (.lst xs) → PrH H' xs ds → (∀ d ∈ ds, d.1 ∈ ws ∧ (d.2 = onS ∨ d.2 = offS)) → ds.length ≤ 6 → Bag (n + 20) H' p → Kp p H H' → Q (.ref D) H'
theorem ok_law_demands (T : Txt K mg) : FnOk P w K mg base CX0 2 (He.fAd K ("_law_demands", none)) T.d_law_demands ["_law_bag_here", "_law_words"] (sp_law_demands K) := by
  refine T.F_law_demands.ok sc_law_demands (fun vs H Q E h => ?_) (fun cdv A outer s H vs Q E hr h => ?_)
  · obtain ⟨p, l, n, ws, rfl, _⟩ := h
    rfl
  · obtain ⟨p, l, n, ws, rfl, B, hn, hl, nlp, hw0, hw1, q⟩ := h
    refine ⟨_, PSs.nox (pss_cons (ps_set (i := 2) sc_law_demands.nd rfl (Or.inl rfl) (pe_lst pa_nil))
      (pss_cons (ps_for PassesOwn.never rfl (pi_range1 (by rfl) T.n_range (pa_cons (pe_call (ok_law_take T) (hr.mono (by decide)) (by rfl) T.m_law_take T.F_law_take.kp T.b_law_take .nil pass0 (pa_cons (pv 0) (pa_cons pe_int pa_nil))) pa_nil)) (pg_name (i := 3) sc_law_demands.nd rfl (Or.inl rfl))
      (pss_one (ps_expr (pe_bm PySem.F.plainAttrs_list PySem.F.slot_list_append PySem.F.type_list_append mt_append (pv 2) (pa_cons (pe_tup (pa_cons (pe_ix ix_list (pv 1) (pe_call (ok_law_take T) (hr.mono (by decide)) (by rfl) T.m_law_take T.F_law_take.kp T.b_law_take .nil pass0 (pa_cons (pv 0) (pa_cons (pe_callB (id := "len")  call_len_seq (by rfl) T.n_len (by decide +kernel) (pa_cons (pv 1) pa_nil)) pa_nil))) (fun _ _ => rfl)) (pa_cons (pe_ix ix_list (pe_lst (pa_cons pe_str (pa_cons pe_str pa_nil))) (pe_call (ok_law_take T) (hr.mono (by decide)) (by rfl) T.m_law_take T.F_law_take.kp T.b_law_take .nil pass0 (pa_cons (pv 0) (pa_cons pe_int pa_nil))) (fun _ _ => rfl)) pa_nil))) pa_nil)))))
      (pss_one (ps_ret (pv 2))))), ?_⟩
    refine ⟨by show 0 ≤ sizeLine; decide, fun D nD => ?_⟩
    generalize hE1 : upd H D _ = H1
    have w1 := new_at hE1
    have s1 := new_same hE1 nD
    have npD := B.ne nD
    have nlD : l ≠ D := ne_some hl nD
    refine ⟨_, rfl, ?_⟩
    refine take_of (z := 5) (B.same s1) (by decide) (by decide) (by omega) fun r1 H2 a1 b1 B2 k2 => ?_
    obtain ⟨j1, rfl⟩ := Int.eq_ofNat_of_zero_le a1
    have k02 : Kp p H H2 := (Kp.of s1).trans k2
    refine ⟨j1, rfl, by omega, by omega, for_range (lo := 0) (fun i σ H' => Bag (n + 1 + 2 * i) H' p ∧ Kp p H H' ∧ H' l = some (.lst (ws.map V.str)) ∧ ∃ (xs : List V) (ds : List (Str × Str)) (y3 : Option V), H' D = some (.lst xs) ∧ PrH H' xs ds ∧ ds.length = i ∧ (∀ d ∈ ds, d.1 ∈ ws ∧ (d.2 = onS ∨ d.2 = offS)) ∧ σ = [some (.ref p), some (.ref l), some (.ref D), y3])
      ⟨B2, k02, k2 _ _ (s1 _ _ hl) nlp, [], [], _, k2 _ _ w1 npD.symm, .nil, rfl, (fun d hd => nomatch hd), rfl⟩ ?_ ?_⟩
    · rintro i σ H3 hi ⟨B3, k3, hl3, xs, ds, y3, w3, p3, dl, hds, rfl⟩
      refine ⟨_, rfl, .inl ⟨rfl, _, SqL.of w3⟩, ?_⟩
      refine ⟨_, rfl, _, rfl, _, rfl, l, _, rfl, .inl (SqL.of hl3), ?_⟩
      refine take_of (z := ((ws.map V.str).length : Int)) B3 (by rw [List.length_map]; omega) (by rw [List.length_map]; omega) (by omega) fun r3 H4 a3 b3 B4 k4 => ?_
      rw [List.length_map] at b3
      obtain ⟨word, hword, eword⟩ := menu_str (zs := ws) a3 b3
      have hl4 := k4 _ _ hl3 nlp
      refine ⟨l, _, _, _, rfl, rfl, SqL.of hl4, eword, ?_⟩
      refine ⟨by show 2 ≤ sizeLine; decide, fun m1 n1 => ⟨_, rfl, ?_⟩⟩
      refine pick_menu [V.str onS, V.str offS] B4 (by omega) n1 rfl (by decide) (by decide) fun wv H5 hwv B5 k5 => ?_
      obtain ⟨way, rfl, hway⟩ : ∃ x : Str, wv = .str x ∧ (x = onS ∨ x = offS) := by
        simp only [List.mem_cons, List.not_mem_nil, or_false] at hwv
        rcases hwv with rfl | rfl
        · exact ⟨_, rfl, .inl rfl⟩
        · exact ⟨_, rfl, .inr rfl⟩
      have w5 := k5 _ _ (k4 _ _ w3 npD.symm) npD.symm
      have p5 := (p3.keep k4 B3.notTup).keep k5 B4.notTup
      refine ⟨by show 2 ≤ sizeLine; decide, fun t nt => ⟨D, xs, _, rfl, rfl, same_upd nt _ _ w5, by rw [p5.len]; exact small1000 (by omega), ?_⟩⟩
      obtain ⟨_, ys, wy, py⟩ := pair_put (a := word) (b := way) (H1 := fun _ => none) (fun c o e => nomatch e) rfl w5 p5 nt
      generalize hE6 : upd H5 t _ = H6 at wy py ⊢
      have s6 := new_same hE6 nt
      generalize hE7 : upd H6 D _ = H7 at wy py ⊢
      have m7 := mut_keep hE7
      refine ⟨((B5.same s6).keep m7 npD).le (by omega), (((k3.trans k4).trans k5).same s6).own m7 nD, m7 _ _ (s6 _ _ (k5 _ _ hl4 nlp)) nlD, ys, _, _, wy, py, by rw [List.length_append, dl]; rfl, fun d hd => ?_, rfl⟩
      rcases List.mem_append.mp hd with hd | hd
      · exact hds d hd
      · rw [List.mem_singleton.mp hd]
        exact ⟨hword, hway⟩
    · rintro σ H3 ⟨B3, k3, hl3, xs, ds, y3, w3, p3, dl, hds, rfl⟩
      exact ⟨_, rfl, q D xs ds H3 nD npD.symm w3 p3 hds (by omega) (B3.le (by omega)) k3⟩

/-! ### closed -/
theorem wd_ok {us : List (Str × UF)} (hN : Nms us) {d : Str × Str} (h : WD us d) : Ok2 d := ⟨(hN.nm _ h.1).ok, h.2.elim (fun e => by rw [e]; exact ok_on) fun e => by rw [e]; exact ok_off⟩
theorem fu_out {us : List (Str × UF)} {w : Str} (h : w ∉ us.map (·.1)) : fu us w = none := by
  unfold fu
  rw [List.find?_eq_none.mpr fun p hp => by
    rw [decide_eq_true_iff]
    exact fun e => h (e ▸ List.mem_map_of_mem hp)]
  rfl
theorem ao_few {us : List (Str × UF)} (hN : Nms us) (few : ∀ q ∈ us, q.2.needs.length ≤ 100) (d : Str × Str) : (ao us d).length ≤ 120 := by
  unfold ao
  split
  · rw [List.length_map]
    exact Nat.le_trans (filt_len hN _) (by decide)
  · rw [srtP_len, List.length_append, List.length_map, List.length_map (f := (·, offS))]
    have h1 : (br us d.1).length ≤ 16 := filt_len hN _
    have h2 : (ned us d.1).length ≤ 100 := by
      unfold ned
      split
      · rename_i u e
        refine Nat.le_trans (List.length_filter_le _ _) ?_
        by_cases c : d.1 ∈ us.map (·.1)
        · obtain ⟨u', e', m⟩ := fu_of c hN.nd
          rw [e] at e'
          cases e'
          exact few _ m
        · exfalso
          have : fu us d.1 = none := fu_out c
          rw [e] at this
          cases this
      · exact Nat.zero_le _
    omega

def sp_law_closed (K : PySem.W.Frag) : Sp := fun vs H Q _ => ∃ (p l m : Addr) (us : List (Str × UF)) (xs ys : List V) (ds es : List (Str × Str)), vs = [.ref p, .ref l, .ref m] ∧ ShelfAt K H p us ∧ Nms us ∧ (∀ p ∈ us, p.2.needs.length ≤ 100) ∧ SqL K H l xs ∧ PrH H xs ds ∧ SqL K H m ys ∧ PrH H ys es ∧ (∀ d ∈ es, WD us d) ∧ (∀ d ∈ ds, WD us d) ∧ es.length ≤ 100 ∧ ds.length ≤ 100 ∧
  (∀ d ∈ ds, d ∈ es) ∧ (∀ a ∈ es, ∀ b ∈ ao us a, b ∈ es) ∧ ∀ H', Same H H' → Q (.bl true) H'
theorem ok_law_closed (T : Txt K mg) : FnOk P w K mg base CX0 5 (He.fAd K ("_law_closed", none)) T.d_law_closed ["_law_made", "_law_some_here", "_law_told"] (sp_law_closed K) := by
  refine T.F_law_closed.ok sc_law_closed (fun vs H Q E h => ?_) (fun cdv A outer s H vs Q E hr h => ?_)
  · obtain ⟨p, l, m, us, xs, ys, ds, es, rfl, _⟩ := h
    rfl
  · obtain ⟨p, l, m, us, xs, ys, ds, es, rfl, hS, hN, hF, hl, hP, hm, hE, hW, hV, few, few2, hsub, hcl, q⟩ := h
    refine ⟨_, PSs.nox (pss_cons (ps_if (pt_not (pt_val (pe_callB (id := "all")  (cr_all rfl) (by rfl) T.n_all (by decide +kernel) (pa_cons (pe_lc (own := [("_law_one", 4)]) (by rfl) sc_law_closed.nd (pi_list (pv 1)) (blkOk_by (own := [("_law_one", 4)]) (N := N_law_closed) (sc := defScope s_law_closed) (by decide +kernel)) (fun _ _ _ _ _ => (pg_name (i := 4) sc_law_closed.nd rfl (Or.inl rfl))) (fun _ _ _ _ _ => pts_nil) (fun _ _ _ _ _ => (pe_cmpR (r := rInD K) (op_inD (UP.un65 hr)) (pv 4) (pv 2) (by rfl)))) pa_nil))))
      (pss_one (ps_ret pe_bl))
      pss_nil)
      (pss_one (ps_ret (pe_callB (id := "all")  (cr_all rfl) (by rfl) T.n_all (by decide +kernel) (pa_cons (pe_lc (own := [("_law_demand", 3)]) (by rfl) sc_law_closed.nd (pi_list (pv 2)) (blkOk_by (own := [("_law_demand", 3)]) (N := N_law_closed) (sc := defScope s_law_closed) (by decide +kernel)) (fun _ _ _ _ _ => (pg_name (i := 3) sc_law_closed.nd rfl (Or.inl rfl))) (fun _ _ _ _ _ => pts_nil) (fun _ _ _ _ _ => (pe_callB (id := "all")  (r := rAll K) (cr_all rfl) (by rfl) T.n_all (by decide +kernel) (pa_cons (pe_lc (own := [("_law_one", 4)]) (by rfl) sc_law_closed.nd (UP.pi_listK (K := K) (by rfl) (pe_call (ok_at_once T) (hr.mono (by decide)) (by rfl) T.m_at_once T.F_at_once.kp T.b_at_once .nil pass0 (pa_cons (pv 0) (pa_cons (pv 3) pa_nil)))) (blkOk_by (own := [("_law_one", 4)]) (N := N_law_closed) (sc := _) (by rfl)) (fun _ _ _ _ _ => (pg_name (i := 4) sc_law_closed.nd rfl (Or.inl rfl))) (fun _ _ _ _ _ => pts_nil) (fun _ _ _ _ _ => (pe_cmpR (r := rInD K) (op_inD (UP.un65 hr)) (pv 4) (pv 2) (by rfl)))) pa_nil)))) pa_nil))))), ?_⟩
    have okE : ∀ e ∈ es, Ok2 e := fun e he => wd_ok hN (hW e he)
    have okD : ∀ e ∈ ds, Ok2 e := fun e he => wd_ok hN (hV e he)
    have all_true : ∀ n : Nat, (List.replicate n true).all id = true := fun n => List.all_eq_true.mpr fun z hz => by rw [(List.mem_replicate.mp hz).2]; rfl
    refine ⟨_, rfl, l, rfl, ⟨_, hl⟩, fun A nA => ?_⟩
    refine lc_list (K := K) (a := l) (xs := xs) (fun i H' => Same H H' ∧ H' A = some (.lst (List.replicate i (V.bl true)))) ⟨same_upd nA, upd_same⟩ (fun i H' _ h => SqL.ext hl h.1) ?_ ?_
    · rintro i x H1 hi ⟨s1, w1⟩
      obtain ⟨t, d, rfl, hd, hdt⟩ := (hP.same s1).get hi
      have dm : d ∈ ds := List.mem_of_getElem? hd
      refine ⟨rfl, yes_of (iteT ?_)⟩
      refine ⟨_, rfl, _, rfl, inD2 (SqT.of hdt) (SqL.ext hm s1) (hE.same s1).prs (okD d dm) okE ?_⟩
      rw [decide_eq_true (hsub d dm)]
      refine ⟨_, w1, by rw [List.length_replicate]; have := (List.getElem?_eq_some_iff.mp hd).1; exact small1000 (by omega), Same.own (q := A) s1 (mut_keep rfl) nA, ?_⟩
      rw [upd_same, List.replicate_succ']
    rintro H1 ⟨s1, w1⟩
    refine ⟨A, List.replicate xs.length true, rfl, SqL.of (by rw [List.map_replicate]; exact w1), ?_⟩
    rw [all_true]
    refine ⟨_, rfl, iteF ?_⟩
    refine ⟨_, rfl, m, rfl, ⟨_, SqL.ext hm s1⟩, fun B nB => ?_⟩
    refine lc_list (K := K) (a := m) (xs := ys) (fun i H' => Same H H' ∧ H' B = some (.lst (List.replicate i (V.bl true)))) ⟨s1.trans (same_upd nB), upd_same⟩ (fun i H' _ h => SqL.ext hm h.1) ?_ ?_
    · rintro i x H2 hi ⟨s2, w2⟩
      obtain ⟨t, a, rfl, ha, hat⟩ := (hE.same s2).get hi
      have am : a ∈ es := List.mem_of_getElem? ha
      refine ⟨rfl, yes_of (iteT ?_)⟩
      refine ⟨_, rfl, _, rfl, p, t, us, a, rfl, hS.same s2, hN, hF, SqT.of hat, (hW a am).1, fun L lxs H3 nL s3 wL pL => ?_⟩
      have nBL : B ≠ L := ne_some w2 nL
      have s03 := s2.trans s3
      refine ⟨L, rfl, ⟨_, SqL.of wL⟩, fun C nC => ?_⟩
      refine lc_list (K := K) (a := L) (xs := lxs) (fun j H' => Same H3 H' ∧ H' C = some (.lst (List.replicate j (V.bl true)))) ⟨same_upd nC, upd_same⟩ (fun j H' _ h => SqL.of (h.1 _ _ wL)) ?_ ?_
      · rintro j y H4 hj ⟨s4, w4⟩
        obtain ⟨u, b, rfl, hb, hbt⟩ := (pL.same s4).get hj
        have bm : b ∈ es := hcl a am b (List.mem_of_getElem? hb)
        have s04 := s03.trans s4
        refine ⟨rfl, yes_of (iteT ?_)⟩
        refine ⟨_, rfl, _, rfl, inD2 (SqT.of hbt) (SqL.ext hm s04) (hE.same s04).prs (okE b bm) okE ?_⟩
        rw [decide_eq_true bm]
        refine ⟨_, w4, by rw [List.length_replicate]; have := (List.getElem?_eq_some_iff.mp hj).1; rw [pL.len] at this; have := ao_few hN hF a; exact small1000 (by omega), Same.own (q := C) s4 (mut_keep rfl) nC, ?_⟩
        rw [upd_same, List.replicate_succ']
      rintro H4 ⟨s4, w4⟩
      refine ⟨C, List.replicate lxs.length true, rfl, SqL.of (by rw [List.map_replicate]; exact w4), ?_⟩
      rw [all_true]
      have s24 := s3.trans s4
      refine ⟨_, s24 _ _ w2, by rw [List.length_replicate]; have := (List.getElem?_eq_some_iff.mp ha).1; exact small1000 (by omega), Same.own (q := B) (s2.trans s24) (mut_keep rfl) (s1.free nB), ?_⟩
      rw [upd_same, List.replicate_succ']
    rintro H2 ⟨s2, w2⟩
    refine ⟨B, List.replicate ys.length true, rfl, SqL.of (by rw [List.map_replicate]; exact w2), ?_⟩
    rw [all_true]
    exact q H2 s2

/-! ### reached -/
theorem ch_reach {us : List (Str × UF)} {ds : List (Str × Str)} : ∀ {cs : List (Str × Str)}, Ch us cs → (∀ c, cs.head? = some c → Reach us ds c) → ∀ d ∈ cs, Reach us ds d
  | [], _, _, d, hd => nomatch hd
  | [a], _, h, d, hd => by
    rw [List.mem_singleton.mp hd]
    exact h a rfl
  | a :: b :: r, hc, h, d, hd => by
    rcases List.mem_cons.mp hd with rfl | hd
    · exact h _ rfl
    · exact ch_reach hc.2 (fun c hc' => by cases hc'; exact .step (h a rfl) hc.1) d hd
def sp_law_reached (K : PySem.W.Frag) : Sp := fun vs H Q _ => ∃ (p l m w : Addr) (us : List (Str × UF)) (xs ys : List V) (ds es : List (Str × Str)) (ws : List Str), vs = [.ref p, .ref l, .ref m, .ref w] ∧ ShelfAt K H p us ∧ Nms us ∧ (∀ p ∈ us, p.2.needs.length ≤ 100) ∧ SqL K H l xs ∧ PrH H xs ds ∧ SqL K H m ys ∧ PrH H ys es ∧ SqL K H w (ws.map V.str) ∧ (∀ d ∈ ds, WD us d) ∧ (∀ d ∈ es, WD us d) ∧ ds.length ≤ 100 ∧ (∀ x ∈ ws, x ∈ us.map (·.1)) ∧
  (∀ d, d ∈ es ↔ Reach us ds d) ∧ ∀ H', Same H H' → Q (.bl true) H'
theorem ok_law_reached (T : Txt K mg) : FnOk P w K mg base CX0 7 (He.fAd K ("_law_reached", none)) T.d_law_reached ["_law_made", "_law_some_here", "_law_told", "_law_words"] (sp_law_reached K) := by
  refine T.F_law_reached.ok sc_law_reached (fun vs H Q E h => ?_) (fun cdv A outer s H vs Q E hr h => ?_)
  · obtain ⟨p, l, m, w, us, xs, ys, ds, es, ws, rfl, _⟩ := h
    rfl
  · obtain ⟨p, l, m, w, us, xs, ys, ds, es, ws, rfl, hS, hN, hF, hl, hP, hm, hE, hw, hW, hV, few, hws, hm', q⟩ := h
    refine ⟨_, PSs.nox (pss_cons (ps_for PassesOwn.never rfl (pi_list (pv 3)) (pg_name (i := 4) sc_law_reached.nd rfl (Or.inl rfl))
      (pss_one (ps_for PassesOwn.never rfl (pi_tup (pe_tup (pa_cons pe_str (pa_cons pe_str pa_nil)))) (pg_name (i := 5) sc_law_reached.nd rfl (Or.inl rfl))
      (pss_cons (ps_set (i := 6) sc_law_reached.nd rfl (Or.inl rfl) (pe_call (ok_chain T) (hr.mono (by decide)) (by rfl) T.m_chain T.F_chain.kp T.b_chain .nil pass0 (pa_cons (pv 0) (pa_cons (pe_callTy (T := "list")  call_list_of (by rfl) T.n_list (by decide +kernel) (pa_cons (pv 1) pa_nil)) (pa_cons (pe_tup (pa_cons (pv 4) (pa_cons (pv 5) pa_nil))) pa_nil)))))
      (pss_cons (ps_if (pt_mid (pt_cmpR op_ne (pe_cmpR op_notN (pv 6) pe_non (nomark _)) (pe_cmpR (op_inD (UP.un65 hr)) (pe_tup (pa_cons (pv 4) (pa_cons (pv 5) pa_nil))) (pv 2) (by rfl)) (nomark _)))
      (pss_one (ps_ret pe_bl))
      pss_nil)
      (pss_cons (ps_if (pt_mid (PW.pt (pw_and (pt_cmpR op_notN (pv 6) pe_non (nomark _)) (pw_and1 (pt_cmpR (op_notInD (UP.un65 hr)) (pe_ix ix_list (pv 6) pe_int (fun _ _ => rfl)) (pv 1) (by rfl))))))
      (pss_one (ps_ret pe_bl))
      pss_nil)
      (pss_one (ps_if (pt_mid (PW.pt (pw_and (pt_cmpR op_notN (pv 6) pe_non (nomark _)) (pw_and1 (pt_not (pt_val (pe_callB (id := "all")  (cr_all rfl) (by rfl) T.n_all (by decide +kernel) (pa_cons (pe_lc (own := [("_law_one", 7)]) (by rfl) sc_law_reached.nd (pi_list (pv 6)) (blkOk_by (own := [("_law_one", 7)]) (N := N_law_reached) (sc := defScope s_law_reached) (by decide +kernel)) (fun _ _ _ _ _ => (pg_name (i := 7) sc_law_reached.nd rfl (Or.inl rfl))) (fun _ _ _ _ _ => pts_nil) (fun _ _ _ _ _ => (pe_cmpR (r := rInD K) (op_inD (UP.un65 hr)) (pv 7) (pv 2) (by rfl)))) pa_nil))))))))
      (pss_one (ps_ret pe_bl))
      pss_nil))))))))
      (pss_one (ps_ret pe_bl))), ?_⟩
    have okE : ∀ e ∈ es, Ok2 e := fun e he => wd_ok hN (hV e he)
    have okD : ∀ e ∈ ds, Ok2 e := fun e he => wd_ok hN (hW e he)
    refine ⟨_, rfl, w, rfl, ⟨_, hw⟩, for_list (xs := ws.map V.str) (fun i σ H' => Same H H' ∧ ∃ y4 y5 y6 y7 : Option V, σ = [some (.ref p), some (.ref l), some (.ref m), some (.ref w), y4, y5, y6, y7]) ⟨Same.refl _, _, _, _, _, rfl⟩ (fun i σ H' _ h => SqL.ext hw h.1) ?_ ?_⟩
    · rintro i x σ H1 hi ⟨s1, y4, y5, y6, y7, rfl⟩
      obtain ⟨word, hword, rfl⟩ := map_str_get hi
      refine ⟨by show 2 ≤ sizeLine; decide, fun tu ntu => ?_⟩
      generalize hE2 : upd H1 tu _ = H2
      have wtu := new_at hE2
      have s2 := s1.trans (new_same hE2 ntu)
      refine ⟨tu, rfl, ⟨_, SqT.of wtu⟩, for_tup (xs := [.str onS, .str offS]) (fun j σ H' => Same H2 H' ∧ ∃ y5 y6 y7 : Option V, σ = [some (.ref p), some (.ref l), some (.ref m), some (.ref w), some (.str word), y5, y6, y7]) ⟨Same.refl _, _, _, _, rfl⟩ (fun j σ H' _ h => SqT.of (h.1 _ _ wtu)) ?_ ?_⟩
      · rintro j x σ H3 hj ⟨s3, y5, y6, y7, rfl⟩
        obtain ⟨way, rfl, hway⟩ : ∃ way : Str, x = .str way ∧ (way = onS ∨ way = offS) := by
          have hm := List.mem_of_getElem? hj
          simp only [List.mem_cons, List.not_mem_nil, or_false] at hm
          rcases hm with rfl | rfl
          · exact ⟨_, rfl, .inl rfl⟩
          · exact ⟨_, rfl, .inr rfl⟩
        have s03 := s2.trans s3
        -- links = chain(..)
        refine ⟨_, rfl, _, rfl, l, _, rfl, .inl (SqL.ext hl s03), fun h nh => ?_⟩
        generalize hE4 : upd H3 h _ = H4
        have wh := new_at hE4
        have s4 := new_same hE4 nh
        refine ⟨_, rfl, _, rfl, by show 2 ≤ sizeLine; decide, fun g1 ng1 => ?_⟩
        generalize hE5 : upd H4 g1 _ = H5
        have wg1 := new_at hE5
        have s35 := s4.trans (new_same hE5 ng1)
        have s05 := s03.trans s35
        refine ⟨p, h, g1, us, xs, ds, (word, way), rfl, hS.same s05, hN, hF, SqL.of (new_same hE5 ng1 _ _ wh), hP.same s05, hW, wg1, fun n hL L zs cs H6 nL s6 wL pL hcl hn hhd hla hch => ?_, fun hno H6 s6 => ?_⟩
        · have gin : (word, way) ∈ es := (hm' _).mpr (reach_lv.mp ⟨n, hL⟩)
          have s06 := s05.trans s6
          refine ⟨fun b H' => b = false ∧ Same H6 H', ?_, ?_⟩
          · refine ⟨_, rfl, rfl, _, rfl, _, rfl, by show 2 ≤ sizeLine; decide, fun g2 ng2 => ?_⟩
            generalize hE7 : upd H6 g2 _ = H7
            have wg2 := new_at hE7
            have s7 := new_same hE7 ng2
            have s07 := s06.trans s7
            refine ⟨_, rfl, inD2 (d := (word, way)) (SqT.of wg2) (SqL.ext hm s07) (hE.same s07).prs (okE _ gin) okE ?_⟩
            rw [decide_eq_true gin]
            exact ⟨rfl, _, rfl, by simp, s7⟩
          rintro b H7 ⟨rfl, s7⟩
          refine iteF ?_
          refine ⟨fun b H' => b = false ∧ Same H7 H', ?_, ?_⟩
          · refine ⟨_, rfl, rfl, _, rfl, iteT ?_⟩
            have s67 := s06.trans s7
            obtain ⟨c0, hc0⟩ : ∃ c, cs[0]? = some c := ⟨cs[0]'(by omega), List.getElem?_eq_getElem _⟩
            obtain ⟨x0, hx0⟩ : ∃ x, zs[0]? = some x := ⟨zs[0]'(by rw [pL.len]; omega), List.getElem?_eq_getElem _⟩
            obtain ⟨t0, d0, rfl, hd0, ht0⟩ := (pL.same s7).get hx0
            have din : d0 ∈ ds := hhd d0 (by rw [List.head?_eq_getElem?]; exact hd0)
            refine ⟨_, rfl, L, _, _, _, rfl, rfl, SqL.of (s7 _ _ wL), atI_nat (j := 0) hx0, _, rfl, notInD2 (SqT.of ht0) (SqL.ext hl s67) (hP.same s67).prs (okD _ din) okD ?_⟩
            rw [decide_eq_true din]
            exact ⟨_, rfl, rfl, Same.refl _⟩
          rintro b H8 ⟨rfl, s8⟩
          refine iteF ?_
          refine ⟨fun b H' => b = false ∧ Same H8 H', ?_, ?_⟩
          · refine ⟨_, rfl, rfl, _, rfl, iteT ?_⟩
            have s68 := s7.trans s8
            have s08 := s06.trans s68
            have inE : ∀ c ∈ cs, c ∈ es := fun c hc => (hm' c).mpr (ch_reach hch (fun c' h' => .base (hhd c' h')) c hc)
            refine ⟨_, rfl, L, rfl, ⟨_, SqL.of (s68 _ _ wL)⟩, fun A nA => ?_⟩
            refine lc_list (K := K) (a := L) (xs := zs) (fun i H' => Same H8 H' ∧ H' A = some (.lst (List.replicate i (V.bl true)))) ⟨same_upd nA, upd_same⟩ (fun i H' _ h => SqL.of (h.1 _ _ (s68 _ _ wL))) ?_ ?_
            · rintro i' v H9 hv ⟨s9, w9⟩
              obtain ⟨t, e, rfl, he, ht⟩ := (pL.same (s68.trans s9)).get hv
              have s09 := s08.trans s9
              refine ⟨rfl, yes_of (iteT ?_)⟩
              refine ⟨_, rfl, _, rfl, inD2 (SqT.of ht) (SqL.ext hm s09) (hE.same s09).prs (okE _ (inE e (List.mem_of_getElem? he))) okE ?_⟩
              rw [decide_eq_true (inE e (List.mem_of_getElem? he))]
              refine ⟨_, w9, by rw [List.length_replicate]; have := (List.getElem?_eq_some_iff.mp he).1; exact small1000 (by omega), Same.own (q := A) s9 (mut_keep rfl) nA, ?_⟩
              rw [upd_same, List.replicate_succ']
            rintro H9 ⟨s9, w9⟩
            refine ⟨A, List.replicate zs.length true, rfl, SqL.of (by rw [List.map_replicate]; exact w9), ?_⟩
            rw [show (List.replicate zs.length true).all id = true from List.all_eq_true.mpr fun z hz => by rw [(List.mem_replicate.mp hz).2]; rfl]
            exact ⟨_, rfl, rfl, s9⟩
          rintro b H9 ⟨rfl, s9⟩
          refine iteF ?_
          exact ⟨s3.trans (s35.trans (s6.trans (s7.trans (s8.trans s9)))), _, _, _, rfl⟩
        · have gno : (word, way) ∉ es := fun z => by
            obtain ⟨n, hn⟩ := reach_lv.mpr ((hm' _).mp z)
            exact hno n hn
          have s06 := s05.trans s6
          refine ⟨fun b H' => b = false ∧ Same H6 H', ?_, ?_⟩
          · refine ⟨_, rfl, rfl, _, rfl, _, rfl, by show 2 ≤ sizeLine; decide, fun g2 ng2 => ?_⟩
            generalize hE7 : upd H6 g2 _ = H7
            have wg2 := new_at hE7
            have s7 := new_same hE7 ng2
            have s07 := s06.trans s7
            have wdg : Ok2 (word, way) := wd_ok hN ⟨hws word (List.mem_of_getElem? hword), hway⟩
            refine ⟨_, rfl, inD2 (d := (word, way)) (SqT.of wg2) (SqL.ext hm s07) (hE.same s07).prs wdg okE ?_⟩
            rw [decide_eq_false gno]
            exact ⟨rfl, _, rfl, by simp, s7⟩
          rintro b H7 ⟨rfl, s7⟩
          refine iteF ?_
          refine ⟨fun b H' => b = false ∧ Same H7 H', ⟨_, rfl, rfl, _, rfl, iteF ⟨rfl, Same.refl _⟩⟩, ?_⟩
          rintro b H8 ⟨rfl, s8⟩
          refine iteF ?_
          refine ⟨fun b H' => b = false ∧ Same H8 H', ⟨_, rfl, rfl, _, rfl, iteF ⟨rfl, Same.refl _⟩⟩, ?_⟩
          rintro b H9 ⟨rfl, s9⟩
          exact iteF ⟨s3.trans (s35.trans (s6.trans (s7.trans (s8.trans s9)))), _, _, _, rfl⟩
      · rintro σ H3 ⟨s3, y5, y6, y7, rfl⟩
        exact ⟨s2.trans s3, _, _, _, _, rfl⟩
    · rintro σ H1 ⟨s1, y4, y5, y6, y7, rfl⟩
      exact q H1 s1

-- SPLIT
/-! ### the law -/
theorem srtP_eq {es fs : List (Str × Str)} (h1 : es.Nodup) (h2 : fs.Nodup) (h : ∀ d, d ∈ es ↔ d ∈ fs) : srtP es = srtP fs := srtP_congr ((List.perm_ext_iff_of_nodup h1 h2).mpr h)
theorem reach_idem {us : List (Str × UF)} {ds es : List (Str × Str)} (hm : ∀ d, d ∈ es ↔ Reach us ds d) (d : Str × Str) : Reach us es d ↔ Reach us ds d := by
  refine ⟨fun h => ?_, fun h => .base ((hm d).mpr h)⟩
  induction h with
  | base h => exact (hm _).mp h
  | step _ g ih => exact .step ih g
theorem reach_app {us : List (Str × UF)} {ds es : List (Str × Str)} (d : Str × Str) : Reach us (ds ++ es) d ↔ Reach us ds d ∨ Reach us es d := by
  refine ⟨fun h => ?_, fun h => ?_⟩
  · induction h with
    | base h => exact (List.mem_append.mp h).imp .base .base
    | step _ g ih => exact ih.imp (.step · g) (.step · g)
  · rcases h with h | h
    · induction h with
      | base h => exact .base (List.mem_append_left _ h)
      | step _ g ih => exact .step ih g
    · induction h with
      | base h => exact .base (List.mem_append_right _ h)
      | step _ g ih => exact .step ih g
theorem noLk_names (us : List (Str × UF)) : (noLk us).map (·.1) = us.map (·.1) := by
  unfold noLk
  rw [List.map_map]
  rfl
/-- nothing lacks -/
theorem noLk_no (us : List (Str × UF)) (ds : List (Str × Str)) : NoLack (noLk us) ds := fun d _ _ u hu x hx => by
  unfold fu at hu
  obtain ⟨q, hq, rfl⟩ := Option.map_eq_some_iff.mp hu
  obtain ⟨q0, _, rfl⟩ := List.mem_map.mp (List.mem_of_find?_eq_some hq)
  rw [noLk_names]
  exact of_decide_eq_true (List.mem_filter.mp hx).2
/-- a told list of what follows -/
def Fl (us : List (Str × UF)) (T : Addr) (H : Hp) (v : V) (ds : List (Str × Str)) : Prop := ∃ F ys es, v = .ref F ∧ F ≠ T ∧ H F = some (.lst ys) ∧ PrH H ys (srtP es) ∧ es.Nodup ∧ ∀ d, d ∈ es ↔ Reach us ds d
theorem Fl.same {us : List (Str × UF)} {T : Addr} {H H' : Hp} {v : V} {ds : List (Str × Str)} (h : Fl us T H v ds) (s : Same H H') : Fl us T H' v ds := by
  obtain ⟨F, ys, es, h1, h2, h3, h4, h5⟩ := h
  exact ⟨F, ys, es, h1, h2, s _ _ h3, h4.same s, h5⟩
theorem Fl.keep {us : List (Str × UF)} {T : Addr} {H H' : Hp} {v : V} {ds : List (Str × Str)} {xs : List V} (h : Fl us T H v ds) (k : Kp T H H') (l : H T = some (.lst xs)) : Fl us T H' v ds := by
  obtain ⟨F, ys, es, h1, h2, h3, h4, h5⟩ := h
  exact ⟨F, ys, es, h1, h2, k _ _ h3 h2, h4.keep k (.lst l), h5⟩
theorem prS_same {H H' : Hp} {L : List (Addr × List Key)} {es : List (Str × Str)} (h : UTS.PrS H L es) (s : Same H H') : UTS.PrS H' L es := ⟨h.keys, fun q hq => s _ _ (h.at_ q hq)⟩
theorem wd_306 {us : List (Str × UF)} (hN : Nms us) {ds : List (Str × Str)} (h : ∀ d ∈ ds, WD us d) : ∀ es : List (Str × Str), es.Nodup → (∀ d ∈ es, d ∈ ds) → es.length < 306 := fun es hn hs => by
  have := wd_few hN hn fun d hd => h d (hs d hd)
  omega
theorem srtP_nd {es : List (Str × Str)} (h : es.Nodup) : (srtP es).Nodup := (srtP_perm es).nodup_iff.mpr h
def sp_law (K : PySem.W.Frag) : Sp := fun vs H Q _ => ∃ (a : Addr) (ns : List Int), vs = [.ref a] ∧ SqL K H a (ns.map V.int) ∧ ns.length ≤ 63 ∧ ∀ H', Q (.bl true) H'
theorem ok_law (T : Txt K mg) : FnOk P w K mg base CX0 8 (He.fAd K ("law", none)) T.d_law ["_law_script"] (sp_law K) := by
  refine T.F_law.ok sc_law (fun vs H Q E h => ?_) (fun cdv A outer s H vs Q E hr h => ?_)
  · obtain ⟨a, ns, rfl, _⟩ := h
    rfl
  · obtain ⟨a, ns, rfl, hS, hlen, q⟩ := h
    refine ⟨_, PSs.nox (pss_cons (ps_for PassesOwn.never rfl (pi_range1 (by rfl) T.n_range (pa_cons (pe_callB (id := "max")  (call_max2 rfl) (by rfl) T.n_max (by decide +kernel) (pa_cons pe_int (pa_cons (pe_callB (id := "min")  (call_min2 rfl) (by rfl) T.n_min (by decide +kernel) (pa_cons pe_int (pa_cons (pe_callB (id := "len")  call_len_seq (by rfl) T.n_len (by decide +kernel) (pa_cons (pv 0) pa_nil)) pa_nil))) pa_nil))) pa_nil)) (pg_name (i := 1) sc_law.nd rfl (Or.inl rfl))
      (pss_cons (ps_set (i := 2) sc_law.nd rfl (Or.inl rfl) (pe_call (ok_law_bag T) (hr.mono (by decide)) (by rfl) T.m_law_bag T.F_law_bag.kp T.b_law_bag .nil pass0 (pa_cons (pv 0) (pa_cons (pv 1) pa_nil))))
      (pss_cons (ps_set (i := 3) sc_law.nd rfl (Or.inl rfl) (pe_call (ok_law_without_lacks T) (hr.mono (by decide)) (by rfl) T.m_law_without_lacks T.F_law_without_lacks.kp T.b_law_without_lacks .nil pass0 (pa_cons (pe_call (ok_law_facts T) (hr.mono (by decide)) (by rfl) T.m_law_facts T.F_law_facts.kp T.b_law_facts .nil pass0 (pa_cons (pv 2) (pa_cons pe_int pa_nil))) pa_nil)))
      (pss_cons (ps_set (i := 4) sc_law.nd rfl (Or.inr rfl) (pe_make T.mk_Shelf (ok_Shelf_init T) (hr.mono (by decide)) (by rfl) T.m_Shelf T.b2_Shelf_init .nil pass0 (pa_cons (pe_call (ok_law_units T) (hr.mono (by decide)) (by rfl) T.m_law_units T.F_law_units.kp T.b_law_units .nil pass0 (pa_cons (pv 3) pa_nil)) pa_nil)))
      (pss_cons (ps_set (i := 5) sc_law.nd rfl (Or.inl rfl) (pe_callB (id := "sorted")  (call_sortedD rfl) (by rfl) T.n_sorted (by decide +kernel) (pa_cons (pv 3) pa_nil)))
      (pss_cons (ps_set (i := 6) sc_law.nd rfl (Or.inl rfl) (pe_lst (pa_cons (pe_call (ok_law_demands T) (hr.mono (by decide)) (by rfl) T.m_law_demands T.F_law_demands.kp T.b_law_demands .nil pass0 (pa_cons (pv 2) (pa_cons (pv 5) pa_nil))) (pa_cons (pe_call (ok_law_demands T) (hr.mono (by decide)) (by rfl) T.m_law_demands T.F_law_demands.kp T.b_law_demands .nil pass0 (pa_cons (pv 2) (pa_cons (pv 5) pa_nil))) pa_nil))))
      (pss_cons (ps_setLc (i := 8) (own := [("_law_some_here", 7)]) (by rfl) sc_law.nd rfl rfl (sw_true rfl rfl rfl (by decide +kernel)) (pi_list (pv 6)) (blkOk_by (own := [("_law_some_here", 7)]) (N := N_law) (sc := defScope s_law) (by decide +kernel)) (fun _ _ _ _ _ => (pg_name (i := 7) sc_law.nd rfl (Or.inl rfl))) (fun _ _ _ _ _ => pts_nil) (fun _ _ _ _ _ => (pe_call (ok_followed T) (hr.mono (by decide)) (by rfl) T.m_followed T.F_followed.kp T.b_followed .nil pass0 (pa_cons (pv 4) (pa_cons (pe_callTy (T := "list")  (r := Evl.rListS K) call_list_of (by rfl) T.n_list (by decide +kernel) (pa_cons (pv 7) pa_nil)) pa_nil)))))
      (pss_cons (ps_for PassesOwn.never rfl (pi_zip (by rfl) T.n_zip (pa_cons (pv 6) (pa_cons (pv 8) pa_nil))) (pg_tup rfl (pgs_cons (pg_name (i := 7) sc_law.nd rfl (Or.inl rfl)) (pgs_cons (pg_name (i := 9) sc_law.nd rfl (Or.inl rfl)) pgs_nil)))
      (pss_cons (ps_if (pt_mid (pt_not (pt_val (pe_call (ok_law_closed T) (hr.mono (by decide)) (by rfl) T.m_law_closed T.F_law_closed.kp T.b_law_closed .nil pass0 (pa_cons (pv 4) (pa_cons (pv 7) (pa_cons (pv 9) pa_nil)))))))
      (pss_one (ps_ret pe_bl))
      pss_nil)
      (pss_cons (ps_if (pt_mid (pt_not (pt_val (pe_call (ok_law_reached T) (hr.mono (by decide)) (by rfl) T.m_law_reached T.F_law_reached.kp T.b_law_reached .nil pass0 (pa_cons (pv 4) (pa_cons (pv 7) (pa_cons (pv 9) (pa_cons (pv 5) pa_nil))))))))
      (pss_one (ps_ret pe_bl))
      pss_nil)
      (pss_one (ps_if (pt_mid (PW.pt (pw_or (pt_cmpR (op_neD hr.units) (pe_call (ok_followed T) (hr.mono (by decide)) (by rfl) T.m_followed T.F_followed.kp T.b_followed .nil pass0 (pa_cons (pv 4) (pa_cons (pe_callTy (T := "list")  call_list_of (by rfl) T.n_list (by decide +kernel) (pa_cons (pv 9) pa_nil)) pa_nil))) (pv 9) (nomark _)) (pw_or1 (pt_cmpR (op_neD hr.units) (pv 9) (pe_callB (id := "sorted")  (UTS.cr_sortS rfl hr.units) (by rfl) T.n_sorted (by decide +kernel) (pa_cons (pe_callTy (T := "set")  (UTS.cr_setP rfl hr.units) (by rfl) T.n_set (by decide +kernel) (pa_cons (pv 9) pa_nil)) pa_nil)) (nomark _))))))
      (pss_one (ps_ret pe_bl))
      pss_nil)))))
      (pss_cons (ps_set (i := 10) sc_law.nd rfl (Or.inl rfl) (pe_call (ok_followed T) (hr.mono (by decide)) (by rfl) T.m_followed T.F_followed.kp T.b_followed .nil pass0 (pa_cons (pv 4) (pa_cons (pe_op op_cat (pe_ix ix_list (pv 6) pe_int (fun _ _ => rfl)) (pe_ix ix_list (pv 6) pe_int (fun _ _ => rfl))) pa_nil))))
      (pss_cons (ps_if (pt_mid (pt_cmpR (op_neD hr.units) (pv 10) (pe_callB (id := "sorted")  (UTS.cr_sortS rfl hr.units) (by rfl) T.n_sorted (by decide +kernel) (pa_cons (pe_callTy (T := "set")  (UTS.cr_setP rfl hr.units) (by rfl) T.n_set (by decide +kernel) (pa_cons (pe_op op_cat (pe_ix ix_list (pv 8) pe_int (fun _ _ => rfl)) (pe_ix ix_list (pv 8) pe_int (fun _ _ => rfl))) pa_nil)) pa_nil)) (nomark _)))
      (pss_one (ps_ret pe_bl))
      pss_nil)
      (pss_one (ps_if (pt_mid (pt_cmpR (op_neD hr.units) (pe_call (ok_followed T) (hr.mono (by decide)) (by rfl) T.m_followed T.F_followed.kp T.b_followed .nil pass0 (pa_cons (pv 4) (pa_cons (pe_op op_cat (pe_ix ix_list (pv 6) pe_int (fun _ _ => rfl)) (pe_ix ix_list (pv 6) pe_int (fun _ _ => rfl))) pa_nil))) (pv 10) (nomark _)))
      (pss_one (ps_ret pe_bl))
      pss_nil))))))))))))
      (pss_one (ps_ret pe_bl))), ?_⟩
    refine ⟨_, rfl, a, _, rfl, .inl hS, _, _, rfl, _, _, rfl, _, rfl, ?_, ?_, for_range (lo := 0) (fun i σ H' => Same H H' ∧ ∃ y1 y2 y3 y4 y5 y6 y7 y8 y9 y10, σ = [some (.ref a), y1, y2, y3, y4, y5, y6, y7, y8, y9, y10]) ⟨Same.refl H, _, _, _, _, _, _, _, _, _, _, rfl⟩ ?_ ?_⟩
    · split <;> split <;> omega
    · split <;> split <;> omega
    · rintro i σ H1 hi ⟨s1, y1, y2, y3, y4, y5, y6, y7, y8, y9, y10, rfl⟩
      have hi9 : i < 10 := by
        rw [List.length_map] at hi
        revert hi
        split <;> split <;> omega
      have hS1 := s1.seq hS
      -- bag, facts
      refine ⟨_, rfl, _, rfl, a, ns, i, by rw [Int.zero_add]; rfl, hS1, by omega, fun p H2 np s2 B2 => ?_⟩
      refine ⟨_, rfl, p, 16, 0, rfl, B2, by omega, by decide, by decide, fun nms ss us0 kvs d0 H3 hus hnd hnm h0 hk16 ssn ssm ssl huo hfa nd wd B3 k3 => ?_⟩
      have hul : us0.length ≤ 16 := by
        have := congrArg List.length hus
        rw [List.length_map] at this
        omega
      have hu0 : 0 < us0.length := by
        have := congrArg List.length hus
        rw [List.length_map] at this
        omega
      have hLF0 : LF K H3 d0 us0 := ⟨⟨kvs, wd, FactsAt.tab hfa⟩, ⟨by rw [hus]; exact hnd, hul, by rw [hus]; exact hnm⟩, fun q hq => ⟨Nat.le_trans (huo q hq).lN (by decide), Nat.le_trans (huo q hq).lA (by decide)⟩⟩
      refine ⟨d0, us0, rfl, hLF0, fun d H4 nd4 s4 hLF => ?_⟩
      have noL := noLk_no us0
      have nl : (noLk us0).length = us0.length := List.length_map _
      generalize noLk us0 = us at hLF noL nl
      have hN := hLF.nms
      have few1 : ∀ q ∈ us, q.2.needs.length ≤ 100 := fun q hq => (hLF.few q hq).1
      obtain ⟨kvs', wd', ht'⟩ := hLF.ex
      -- made
      refine ⟨_, rfl, d, kvs', us, rfl, wd', ht', hN, fun ul xs H5 nul s5 wul hU => ?_⟩
      refine fun x dx nx ndx nex => ?_
      have sn : Same H5 (upd (upd H5 dx (.own x)) x (.ins (He.ga K "Shelf") dx [])) := Same.made nx ndx fun b o e _ => e
      refine ⟨x, dx, ul, xs, us, rfl, upd_same, .inl (SqL.of (sn _ _ wul)), hU.same sn, hN, fun H6 hSh kp6 => ⟨rfl, ?_⟩⟩
      have s56 : Same H5 H6 := Same.made nx ndx fun b o e n => kp6 b o e n
      have s46 := s5.trans s56
      have B6 := (B3.same s4).same s46
      -- words
      obtain ⟨kv6, wd6, ht6⟩ := (hLF.same s46).ex
      refine ⟨_, rfl, d, kv6, us.map (·.1), rfl, .inl wd6, ht6.keys, by rw [List.length_map]; omega, fun ys w7 hy hs nw7 => ?_⟩
      obtain rfl := srt_of hy hs
      generalize hE7 : upd H6 w7 _ = H7
      have ww7 := new_at hE7
      have s7 := new_same hE7 nw7
      have B7 := B6.same s7
      have npw : p ≠ w7 := B6.ne nw7
      have wl : (srt (us.map (·.1))).length = us0.length := by rw [srt_len, List.length_map, nl]
      have k27 : Kp p H2 H7 := ((k3.same s4).same s46).same s7
      have hS7 : ShelfAt K H7 x us := hSh.same s7
      -- both
      refine ⟨_, rfl, _, rfl, p, w7, _, srt (us.map (·.1)), rfl, B7, by omega, ww7, npw.symm, by omega, by omega, fun D1 xs1 ds1 H8 nD1 nD1p wD1 pD1 hds1 dl1 B8 k8 => ?_⟩
      have ww8 := k8 _ _ ww7 npw.symm
      have hS8 := hS7.keepB k8 B7
      have k28 := k27.trans k8
      refine ⟨_, rfl, _, rfl, p, w7, _, srt (us.map (·.1)), rfl, B8, by omega, ww8, npw.symm, by omega, by omega, fun D2 xs2 ds2 H9 nD2 nD2p wD2 pD2 hds2 dl2 B9 k9 => ?_⟩
      have hW1 : ∀ e ∈ ds1, WD us e := fun e he => ⟨srt_mem.mp (hds1 e he).1, (hds1 e he).2⟩
      have hW2 : ∀ e ∈ ds2, WD us e := fun e he => ⟨srt_mem.mp (hds2 e he).1, (hds2 e he).2⟩
      have hS9 := hS8.keepB k9 B8
      have k29 := k28.trans k9
      have wD1' := k9 _ _ wD1 nD1p
      have pD1' := pD1.keep k9 B8.notTup
      have ww9 := k9 _ _ ww8 npw.symm
      refine ⟨by show 2 ≤ sizeLine; decide, fun bo nbo => ?_⟩
      generalize hE10 : upd H9 bo _ = H10
      have wbo := new_at hE10
      have s10 := new_same hE10 nbo
      have B10 := B9.same s10
      have k210 := k29.same s10
      have hS10 := hS9.same s10
      have w1 := s10 _ _ wD1'
      have p1 := pD1'.same s10
      have w2 := s10 _ _ wD2
      have p2 := pD2.same s10
      have ww10 := s10 _ _ ww9
      clear wD1 pD1 wD1' pD1' wD2 pD2 ww7 ww8 ww9 hS7 hS8 hS9 k8 k9 B7 B8 B9
      have okd1 : ∀ e ∈ ds1, Ok2 e := fun e he => wd_ok hN (hW1 e he)
      have okd2 : ∀ e ∈ ds2, Ok2 e := fun e he => wd_ok hN (hW2 e he)
      -- the two of them, as one
      have each : ∀ {j : Nat} {v : V}, [V.ref D1, .ref D2][j]? = some v → ∃ D xs ds, v = .ref D ∧ [ds1, ds2][j]? = some ds ∧ H10 D = some (.lst xs) ∧ PrH H10 xs ds ∧ (∀ e ∈ ds, WD us e) ∧ ds.length ≤ 6 := fun {j v} e => by
        rcases j with _ | _ | j
        · cases e
          exact ⟨D1, xs1, ds1, rfl, rfl, w1, p1, hW1, dl1⟩
        · cases e
          exact ⟨D2, xs2, ds2, rfl, rfl, w2, p2, hW2, dl2⟩
        · cases e
      -- told
      refine ⟨_, rfl, bo, rfl, ⟨_, SqL.of wbo⟩, fun T nT => ?_⟩
      refine lc_list (K := K) (a := bo) (xs := [.ref D1, .ref D2]) (fun j H' => Same H10 H' ∧ ∃ ts : List V, H' T = some (.lst ts) ∧ ts.length = j ∧ ∀ (n : Nat) (v : V) (ds : List (Str × Str)), ts[n]? = some v → [ds1, ds2][n]? = some ds → Fl us T H' v ds) ⟨same_upd nT, [], upd_same, rfl, fun n v ds e => by simp at e⟩ (fun j H' _ h => SqL.of (h.1 _ _ wbo)) ?_ ?_
      · rintro j v H11 hj ⟨s11, ts, w11, tl, fls⟩
        obtain ⟨D, xs, ds, rfl, hds, wD, pD, hW, dl⟩ := each hj
        refine ⟨rfl, yes_of (iteT ?_)⟩
        refine ⟨_, rfl, _, rfl, D, _, rfl, .inl (SqL.of (s11 _ _ wD)), fun h nh => ?_⟩
        generalize hE12 : upd H11 h _ = H12
        have wh := new_at hE12
        have s12 := new_same hE12 nh
        have s1012 := s11.trans s12
        refine ⟨x, h, us, xs, ds, rfl, hS10.same s1012, hN, few1, SqL.of wh, pD.same s1012, hW, noL ds, fun F ys9 es9 H13 nF s13 wF pF hn9 hm9 => ?_⟩
        have s1113 := s12.trans s13
        have w13 := s1113 _ _ w11
        have nFT : F ≠ T := (ne_some (s12 _ _ w11) nF).symm
        have jl : ts.length ≤ 2 := by
          have := (List.getElem?_eq_some_iff.mp hj).1
          simp only [List.length_cons, List.length_nil] at this
          omega
        refine ⟨ts, w13, small1000 (by omega), ?_⟩
        generalize hE14 : upd H13 T _ = H14
        have w14 := new_at hE14
        have m14 := mut_keep hE14
        refine ⟨Same.own (s11.trans s1113) m14 nT, _, w14, by rw [List.length_append, tl]; rfl, fun n v ds' e e2 => ?_⟩
        rw [List.getElem?_append] at e
        by_cases lt : n < ts.length
        · rw [if_pos lt] at e
          exact ((fls n v ds' e e2).same s1113).keep m14 w13
        · rw [if_neg lt] at e
          have e0 : n - ts.length = 0 := by
            have := (List.getElem?_eq_some_iff.mp e).1
            rw [List.length_singleton] at this
            omega
          have en : n = j := by omega
          subst en
          rw [e0] at e
          cases e
          rw [hds] at e2
          cases e2
          exact Fl.keep ⟨F, ys9, es9, rfl, nFT, wF, pF, hn9, hm9⟩ m14 w13
      rintro H11 ⟨s11, ts, w11, tl, fls⟩
      have tl : ts.length = 2 := tl
      have S2 : Same H10 H11 := s11
      have B11 := B10.same S2
      have k211 := k210.same S2
      obtain ⟨t1, ht1⟩ : ∃ v, ts[0]? = some v := ⟨ts[0]'(by omega), List.getElem?_eq_getElem _⟩
      obtain ⟨t2, ht2⟩ : ∃ v, ts[1]? = some v := ⟨ts[1]'(by omega), List.getElem?_eq_getElem _⟩
      -- for some_here, found in zip(both, told)
      refine ⟨_, rfl, _, rfl, bo, T, _, _, rfl, SqL.of (S2 _ _ wbo), SqL.of w11, ?_⟩
      refine for_it (walk_zip (n := 2) (by rw [tl]; rfl)) (fun j σ H' => Same H11 H' ∧ ∃ y7 y9 y10 : Option V, σ = [some (.ref a), some (.int (0 + (i : Int))), some (.ref p), some (.ref d), some (.ref x), some (.ref w7), some (.ref bo), y7, some (.ref T), y9, y10]) ⟨Same.refl _, _, _, _, rfl⟩ (fun j σ H' _ h => ⟨SqL.of (h.1 _ _ (S2 _ _ wbo)), SqL.of (h.1 _ _ w11)⟩) ?_ ?_
      · rintro j v σ H12 H12' hj ⟨s12, y7, y9, y10, rfl⟩ ⟨T2, v1, v2, rfl, nT2, rfl, hv1, hv2⟩
        generalize hE13 : upd H12 T2 _ = H13
        have w13 := new_at hE13
        have s1113 := s12.trans (new_same hE13 nT2)
        have s1013 := S2.trans s1113
        obtain ⟨D, xs, ds, rfl, hds, wD, pD, hW, dl⟩ := each hv1
        obtain ⟨F, ys, es, rfl, _, wF, pF, hn, hm⟩ := fls j v2 ds hv2 hds
        have wE : ∀ e ∈ srtP es, WD us e := fun e he => reach_wd hW ((hm e).mp (srtP_mem.mp he))
        have okE : ∀ e ∈ srtP es, Ok2 e := fun e he => wd_ok hN (wE e he)
        have hm2 : ∀ d, d ∈ srtP es ↔ Reach us ds d := fun d => srtP_mem.trans (hm d)
        have el : (srtP es).length ≤ 32 := wd_few hN (srtP_nd hn) wE
        have wD13 := s1013 _ _ wD
        have pD13 := pD.same s1013
        have wF13 := s1113 _ _ wF
        have pF13 := pF.same s1113
        refine ⟨T2, _, rfl, SqT.of w13, rfl, _, _, rfl, _, _, rfl, rfl, ?_⟩
        -- closed
        refine ⟨fun b H' => b = false ∧ Same H13 H', ?_, ?_⟩
        · refine ⟨_, rfl, _, rfl, _, rfl, x, D, F, us, xs, ys, ds, srtP es, rfl, hS10.same s1013, hN, few1, SqL.of wD13, pD13, SqL.of wF13, pF13, wE, hW, by omega, by omega, fun d hd => (hm2 d).mpr (.base hd), fun a' ha b hb => (hm2 b).mpr (.step ((hm2 a').mp ha) hb), fun H14 s14 => ⟨_, rfl, rfl, s14⟩⟩
        rintro b H14 ⟨rfl, s14⟩
        refine iteF ?_
        have s1014 := s1013.trans s14
        -- reached
        refine ⟨fun b H' => b = false ∧ Same H14 H', ?_, ?_⟩
        · refine ⟨_, rfl, _, rfl, _, rfl, _, rfl, x, D, F, w7, us, xs, ys, ds, srtP es, srt (us.map (·.1)), rfl, hS10.same s1014, hN, few1, SqL.of (s14 _ _ wD13), pD13.same s14, SqL.of (s14 _ _ wF13), pF13.same s14, SqL.of (s1014 _ _ ww10), hW, wE, by omega, fun z hz => srt_mem.mp hz, hm2, fun H15 s15 => ⟨_, rfl, rfl, s15⟩⟩
        rintro b H15 ⟨rfl, s15⟩
        refine iteF ?_
        have s1315 := s14.trans s15
        have s1015 := s1013.trans s1315
        have wF15 := s1315 _ _ wF13
        have pF15 := pF13.same s1315
        -- followed again, sorted set
        refine ⟨fun b H' => b = false ∧ Same H15 H', ?_, ?_⟩
        · refine ⟨_, rfl, _, rfl, F, _, rfl, .inl (SqL.of wF15), fun h nh => ?_⟩
          generalize hE16 : upd H15 h _ = H16
          have wh := new_at hE16
          have s16 := new_same hE16 nh
          refine ⟨x, h, us, ys, srtP es, rfl, hS10.same (s1015.trans s16), hN, few1, SqL.of wh, pF15.same s16, wE, noL _, fun G zs gs H17 nG s17 wG pG hng hmg => ?_⟩
          have s1517 := s16.trans s17
          have same1 : srtP gs = srtP es := srtP_eq hng hn fun e => ((hmg e).trans (reach_idem hm2 e)).trans (hm e).symm
          rw [same1] at pG
          refine ⟨_, rfl, neD2 (ds := srtP es) (es := srtP es) (SqL.of wG) pG.prs (SqL.of (s1517 _ _ wF15)) (pF15.same s1517).prs okE okE ?_⟩
          rw [decide_eq_true rfl]
          refine ⟨_, rfl, iteF ?_⟩
          have wF17 := s1517 _ _ wF15
          have pF17 := pF15.same s1517
          refine ⟨_, rfl, _, rfl, F, ys, srtP es, rfl, .inl (SqL.of wF17), pF17, wd_306 hN wE, fun ps L es' nps prs nd' mem => ?_⟩
          generalize hE18 : upd H17 ps _ = H18
          have wps := new_at hE18
          have s18 := new_same hE18 nps
          refine ⟨ps, L, es', rfl, wps, prS_same prs s18, fun o zs' no po => ?_⟩
          generalize hE19 : upd H18 o _ = H19
          have wo := new_at hE19
          have s19 := new_same hE19 no
          have same2 : srtP es' = srtP es := srtP_eq nd' hn fun e => (mem e).trans srtP_mem
          rw [same2] at po
          refine neD2 (ds := srtP es) (es := srtP es) (SqL.of ((s18.trans s19) _ _ wF17)) (pF17.same (s18.trans s19)).prs (SqL.of wo) (po.same s19).prs okE okE ?_
          rw [decide_eq_true rfl]
          exact ⟨_, rfl, rfl, s1517.trans (s18.trans s19)⟩
        rintro b H16 ⟨rfl, s16⟩
        exact iteF ⟨s1113.trans (s1315.trans s16), _, _, _, rfl⟩
      · rintro σ H12 ⟨s12, y7, y9, y10, rfl⟩
        have s1012 := S2.trans s12
        have wbo12 := s1012 _ _ wbo
        have w1' := s1012 _ _ w1
        have p1' := p1.same s1012
        have w2' := s1012 _ _ w2
        have p2' := p2.same s1012
        have wT12 := s12 _ _ w11
        obtain ⟨F1, ys1, es1, rfl, _, wF1, pF1, hn1, hm1⟩ := (fls 0 _ ds1 ht1 rfl).same s12
        obtain ⟨F2, ys2, es2, rfl, _, wF2, pF2, hn2, hm2⟩ := (fls 1 _ ds2 ht2 rfl).same s12
        have wE1 : ∀ e ∈ srtP es1, WD us e := fun e he => reach_wd hW1 ((hm1 e).mp (srtP_mem.mp he))
        have wE2 : ∀ e ∈ srtP es2, WD us e := fun e he => reach_wd hW2 ((hm2 e).mp (srtP_mem.mp he))
        have e1 : (srtP es1).length ≤ 32 := wd_few hN (srtP_nd hn1) wE1
        have e2 : (srtP es2).length ≤ 32 := wd_few hN (srtP_nd hn2) wE2
        have hW12 : ∀ e ∈ ds1 ++ ds2, WD us e := fun e he => (List.mem_append.mp he).elim (hW1 e) (hW2 e)
        have hW21 : ∀ e ∈ ds2 ++ ds1, WD us e := fun e he => (List.mem_append.mp he).elim (hW2 e) (hW1 e)
        -- together
        refine ⟨_, rfl, _, rfl, bo, _, _, _, rfl, rfl, SqL.of wbo12, atI_nat (j := 0) rfl, _, rfl, bo, _, _, _, rfl, rfl, SqL.of wbo12, atI_nat (j := 1) rfl, D1, D2, _, _, rfl, rfl, w1', w2', by rw [p1'.len, p2'.len]; exact Nat.le_of_lt (small1000 (by omega)), fun c1 nc1 => ?_⟩
        generalize hE13 : upd H12 c1 _ = H13
        have wc1 := new_at hE13
        have s13 := new_same hE13 nc1
        refine ⟨x, c1, us, xs1 ++ xs2, ds1 ++ ds2, rfl, hS10.same (s1012.trans s13), hN, few1, SqL.of wc1, (p1'.app p2').same s13, hW12, noL _, fun G zs gs H14 nG s14 wG pG hng hmg => ?_⟩
        have s1214 := s13.trans s14
        have wG' : ∀ e ∈ srtP gs, WD us e := fun e he => reach_wd hW12 ((hmg e).mp (srtP_mem.mp he))
        have okG : ∀ e ∈ srtP gs, Ok2 e := fun e he => wd_ok hN (wG' e he)
        -- != sorted(set(..))
        refine ⟨fun b H' => b = false ∧ Same H14 H', ?_, ?_⟩
        · have wT14 := s1214 _ _ wT12
          have wF1' := s1214 _ _ wF1
          have pF1' := pF1.same s1214
          have wF2' := s1214 _ _ wF2
          have pF2' := pF2.same s1214
          refine ⟨_, rfl, _, rfl, T, _, _, _, rfl, rfl, SqL.of wT14, atI_nat (j := 0) ht1, _, rfl, T, _, _, _, rfl, rfl, SqL.of wT14, atI_nat (j := 1) ht2, F1, F2, _, _, rfl, rfl, wF1', wF2', by rw [pF1'.len, pF2'.len]; exact Nat.le_of_lt (small1000 (by omega)), fun c2 nc2 => ?_⟩
          generalize hE15 : upd H14 c2 _ = H15
          have wc2 := new_at hE15
          have s15 := new_same hE15 nc2
          have wE12 : ∀ e ∈ srtP es1 ++ srtP es2, WD us e := fun e he => (List.mem_append.mp he).elim (wE1 e) (wE2 e)
          refine ⟨c2, ys1 ++ ys2, srtP es1 ++ srtP es2, rfl, .inl (SqL.of wc2), (pF1'.app pF2').same s15, wd_306 hN wE12, fun ps L es' nps prs nd' mem => ?_⟩
          generalize hE16 : upd H15 ps _ = H16
          have wps := new_at hE16
          have s16 := new_same hE16 nps
          refine ⟨ps, L, es', rfl, wps, prS_same prs s16, fun o zs' no po => ?_⟩
          generalize hE17 : upd H16 o _ = H17
          have wo := new_at hE17
          have s17 := new_same hE17 no
          have s1417 := s15.trans (s16.trans s17)
          have same2 : srtP es' = srtP gs := srtP_eq nd' hng fun e => by
            rw [mem, List.mem_append, srtP_mem, srtP_mem, hm1, hm2, hmg, reach_app]
          rw [same2] at po
          refine neD2 (ds := srtP gs) (es := srtP gs) (SqL.of (s1417 _ _ wG)) (pG.same s1417).prs (SqL.of wo) (po.same s17).prs okG okG ?_
          rw [decide_eq_true rfl]
          exact ⟨_, rfl, rfl, s1417⟩
        rintro b H15 ⟨rfl, s15⟩
        refine iteF ?_
        -- the other way round
        have s1215 := s1214.trans s15
        have wbo15 := s1215 _ _ wbo12
        refine ⟨fun b H' => b = false ∧ Same H15 H', ?_, ?_⟩
        · refine ⟨_, rfl, _, rfl, bo, _, _, _, rfl, rfl, SqL.of wbo15, atI_nat (j := 1) rfl, _, rfl, bo, _, _, _, rfl, rfl, SqL.of wbo15, atI_nat (j := 0) rfl, D2, D1, _, _, rfl, rfl, s1215 _ _ w2', s1215 _ _ w1', by rw [p1'.len, p2'.len]; exact Nat.le_of_lt (small1000 (by omega)), fun c3 nc3 => ?_⟩
          generalize hE16 : upd H15 c3 _ = H16
          have wc3 := new_at hE16
          have s16 := new_same hE16 nc3
          have s1216 := s1215.trans s16
          refine ⟨x, c3, us, xs2 ++ xs1, ds2 ++ ds1, rfl, hS10.same (s1012.trans s1216), hN, few1, SqL.of wc3, (p2'.same s1216).app (p1'.same s1216), hW21, noL _, fun U zs3 gs3 H17 nU s17 wU pU hn3 hm3 => ?_⟩
          have same3 : srtP gs3 = srtP gs := srtP_eq hn3 hng fun e => by
            rw [hm3, hmg, reach_app, reach_app]
            exact Or.comm
          rw [same3] at pU
          have s1517 := s16.trans s17
          refine ⟨_, rfl, neD2 (ds := srtP gs) (es := srtP gs) (SqL.of wU) pU.prs (SqL.of ((s15.trans s1517) _ _ wG)) (pG.same (s15.trans s1517)).prs okG okG ?_⟩
          rw [decide_eq_true rfl]
          exact ⟨_, rfl, rfl, s1517⟩
        rintro b H16 ⟨rfl, s16⟩
        exact iteF ⟨s1.trans (Same.own s2 (k211.same (s12.trans (s1215.trans s16))) np), _, _, _, _, _, _, _, _, _, _, rfl⟩
    · rintro σ H1 ⟨s1, y1, y2, y3, y4, y5, y6, y7, y8, y9, y10, rfl⟩
      exact q _

-- SPLIT
end
theorem kb_Rule_init_1_first_times_top_burst_span_mk {K : PySem.W.Frag} {f : Addr} {fd : FuncData} (F : FunD K "__init__" "Rule.__init__" (defArgs s_Rule_init) (defBody s_Rule_init) (defScope s_Rule_init) [] [("first", V.int 1), ("times", V.int 2), ("top", V.int 64), ("burst", V.int 5), ("span", V.int 100)] f fd) : ∃ gg, KBn K fd ["self", "first", "times", "top", "burst", "span"] 1 ["first", "times", "top", "burst", "span"] gg (fun us ws => us ++ (ws.drop 0).take 1 ++ (ws.drop 1).take 1 ++ (ws.drop 2).take 1 ++ (ws.drop 3).take 1 ++ (ws.drop 4).take 1) := by
  obtain ⟨mv, h⟩ := F.kbinds0 (ps := ["self", "first", "times", "top", "burst", "span"]) 1 ["first", "times", "top", "burst", "span"] [] (fun us mv ws => us ++ (ws.drop 0).take 1 ++ (ws.drop 1).take 1 ++ (ws.drop 2).take 1 ++ (ws.drop 3).take 1 ++ (ws.drop 4).take 1) (by intro z; cases z) (by simp) (fun r1 r2 r3 => (((((r1.append (vals_take ((r3).drop 0) 1)).append (vals_take ((r3).drop 1) 1)).append (vals_take ((r3).drop 2) 1)).append (vals_take ((r3).drop 3) 1)).append (vals_take ((r3).drop 4) 1))) (fun D doc pm an cdv ct us mv ws h1 h2 h3 => match us, mv, ws, h1, h2, h3 with | [_], [], [_, _, _, _, _], _, _, _ => rfl)
  exact ⟨_, h⟩
theorem kb_Unit_init_2_kind_needs_wants_bars_after_opens_rule_mk {K : PySem.W.Frag} {f : Addr} {fd : FuncData} (F : FunD K "__init__" "Unit.__init__" (defArgs s_Unit_init) (defBody s_Unit_init) (defScope s_Unit_init) [] [("kind", V.str "work"), ("needs", V.ref (UO.kwAdr K ("Unit", some "__init__") "needs")), ("wants", V.ref (UO.kwAdr K ("Unit", some "__init__") "wants")), ("bars", V.ref (UO.kwAdr K ("Unit", some "__init__") "bars")), ("after", V.ref (UO.kwAdr K ("Unit", some "__init__") "after")), ("opens", V.non), ("rule", V.non)] f fd) : ∃ gg, KBn K fd ["self", "name", "kind", "needs", "wants", "bars", "after", "opens", "rule"] 2 ["kind", "needs", "wants", "bars", "after", "opens", "rule"] gg (fun us ws => us ++ (ws.drop 0).take 1 ++ (ws.drop 1).take 1 ++ (ws.drop 2).take 1 ++ (ws.drop 3).take 1 ++ (ws.drop 4).take 1 ++ (ws.drop 5).take 1 ++ (ws.drop 6).take 1) := by
  obtain ⟨mv, h⟩ := F.kbinds0 (ps := ["self", "name", "kind", "needs", "wants", "bars", "after", "opens", "rule"]) 2 ["kind", "needs", "wants", "bars", "after", "opens", "rule"] [] (fun us mv ws => us ++ (ws.drop 0).take 1 ++ (ws.drop 1).take 1 ++ (ws.drop 2).take 1 ++ (ws.drop 3).take 1 ++ (ws.drop 4).take 1 ++ (ws.drop 5).take 1 ++ (ws.drop 6).take 1) (by intro z; cases z) (by simp) (fun r1 r2 r3 => (((((((r1.append (vals_take ((r3).drop 0) 1)).append (vals_take ((r3).drop 1) 1)).append (vals_take ((r3).drop 2) 1)).append (vals_take ((r3).drop 3) 1)).append (vals_take ((r3).drop 4) 1)).append (vals_take ((r3).drop 5) 1)).append (vals_take ((r3).drop 6) 1))) (fun D doc pm an cdv ct us mv ws h1 h2 h3 => match us, mv, ws, h1, h2, h3 with | [_, _], [], [_, _, _, _, _, _, _], _, _, _ => rfl)
  exact ⟨_, h⟩
def dd_at_once : He.DefD := ⟨("at_once", none), "at_once", "at_once", defArgs s_at_once, defBody s_at_once, defScope s_at_once, [], []⟩
def dd_causes : He.DefD := ⟨("causes", none), "causes", "causes", defArgs s_causes, defBody s_causes, defScope s_causes, [], []⟩
def dd_chain_to : He.DefD := ⟨("chain_to", none), "chain_to", "chain_to", defArgs s_chain_to, defBody s_chain_to, defScope s_chain_to, [], []⟩
def dd_followed : He.DefD := ⟨("followed", none), "followed", "followed", defArgs s_followed, defBody s_followed, defScope s_followed, [], []⟩
def dd_chain : He.DefD := ⟨("chain", none), "chain", "chain", defArgs s_chain, defBody s_chain, defScope s_chain, [], []⟩
def dd_Rule_init : He.DefD := ⟨("Rule", some "__init__"), "__init__", "Rule.__init__", defArgs s_Rule_init, defBody s_Rule_init, defScope s_Rule_init, [], [("first", .int 1), ("times", .int 2), ("top", .int 64), ("burst", .int 5), ("span", .int 100)]⟩
def dd_Shelf_init : He.DefD := ⟨("Shelf", some "__init__"), "__init__", "Shelf.__init__", defArgs s_Shelf_init, defBody s_Shelf_init, defScope s_Shelf_init, [.adr (He.dflAt ("Shelf", some "__init__") 0)], []⟩
def dd_Shelf_names : He.DefD := ⟨("Shelf", some "names"), "names", "Shelf.names", defArgs s_Shelf_names, defBody s_Shelf_names, defScope s_Shelf_names, [], []⟩
def dd_Shelf_has : He.DefD := ⟨("Shelf", some "has"), "has", "Shelf.has", defArgs s_Shelf_has, defBody s_Shelf_has, defScope s_Shelf_has, [], []⟩
def dd_Shelf_unit : He.DefD := ⟨("Shelf", some "unit"), "unit", "Shelf.unit", defArgs s_Shelf_unit, defBody s_Shelf_unit, defScope s_Shelf_unit, [], []⟩
def dd_Shelf_needing : He.DefD := ⟨("Shelf", some "needing"), "needing", "Shelf.needing", defArgs s_Shelf_needing, defBody s_Shelf_needing, defScope s_Shelf_needing, [], []⟩
def dd_Shelf_barred : He.DefD := ⟨("Shelf", some "barred"), "barred", "Shelf.barred", defArgs s_Shelf_barred, defBody s_Shelf_barred, defScope s_Shelf_barred, [], []⟩
def dd_Shelf_waited : He.DefD := ⟨("Shelf", some "waited"), "waited", "Shelf.waited", defArgs s_Shelf_waited, defBody s_Shelf_waited, defScope s_Shelf_waited, [], []⟩
def dd_Unit_init : He.DefD := ⟨("Unit", some "__init__"), "__init__", "Unit.__init__", defArgs s_Unit_init, defBody s_Unit_init, defScope s_Unit_init, [], [("kind", .str "work"), ("needs", .adr (fun K => UO.kwAdr K ("Unit", some "__init__") "needs")), ("wants", .adr (fun K => UO.kwAdr K ("Unit", some "__init__") "wants")), ("bars", .adr (fun K => UO.kwAdr K ("Unit", some "__init__") "bars")), ("after", .adr (fun K => UO.kwAdr K ("Unit", some "__init__") "after")), ("opens", .non), ("rule", .non)]⟩
def dd_law_bag : He.DefD := ⟨("_law_bag", none), "_law_bag", "_law_bag", defArgs s_law_bag, defBody s_law_bag, defScope s_law_bag, [], []⟩
def dd_law_take : He.DefD := ⟨("_law_take", none), "_law_take", "_law_take", defArgs s_law_take, defBody s_law_take, defScope s_law_take, [], []⟩
def dd_law_name : He.DefD := ⟨("_law_name", none), "_law_name", "_law_name", defArgs s_law_name, defBody s_law_name, defScope s_law_name, [], []⟩
def dd_law_names : He.DefD := ⟨("_law_names", none), "_law_names", "_law_names", defArgs s_law_names, defBody s_law_names, defScope s_law_names, [], []⟩
def dd_law_rule_parts : He.DefD := ⟨("_law_rule_parts", none), "_law_rule_parts", "_law_rule_parts", defArgs s_law_rule_parts, defBody s_law_rule_parts, defScope s_law_rule_parts, [], []⟩
def dd_law_rule : He.DefD := ⟨("_law_rule", none), "_law_rule", "_law_rule", defArgs s_law_rule, defBody s_law_rule, defScope s_law_rule, [], []⟩
def dd_law_some : He.DefD := ⟨("_law_some", none), "_law_some", "_law_some", defArgs s_law_some, defBody s_law_some, defScope s_law_some, [], []⟩
def dd_law_facts : He.DefD := ⟨("_law_facts", none), "_law_facts", "_law_facts", defArgs s_law_facts, defBody s_law_facts, defScope s_law_facts, [], []⟩
def dd_law_unit : He.DefD := ⟨("_law_unit", none), "_law_unit", "_law_unit", defArgs s_law_unit, defBody s_law_unit, defScope s_law_unit, [], []⟩
def dd_law_units : He.DefD := ⟨("_law_units", none), "_law_units", "_law_units", defArgs s_law_units, defBody s_law_units, defScope s_law_units, [], []⟩
def dd_law_needing : He.DefD := ⟨("_law_needing", none), "_law_needing", "_law_needing", defArgs s_law_needing, defBody s_law_needing, defScope s_law_needing, [], []⟩
def dd_law_barred : He.DefD := ⟨("_law_barred", none), "_law_barred", "_law_barred", defArgs s_law_barred, defBody s_law_barred, defScope s_law_barred, [], []⟩
def dd_law_next : He.DefD := ⟨("_law_next", none), "_law_next", "_law_next", defArgs s_law_next, defBody s_law_next, defScope s_law_next, [], []⟩
def dd_law_without_lacks : He.DefD := ⟨("_law_without_lacks", none), "_law_without_lacks", "_law_without_lacks", defArgs s_law_without_lacks, defBody s_law_without_lacks, defScope s_law_without_lacks, [], []⟩
def dd_law_demands : He.DefD := ⟨("_law_demands", none), "_law_demands", "_law_demands", defArgs s_law_demands, defBody s_law_demands, defScope s_law_demands, [], []⟩
def dd_law_closed : He.DefD := ⟨("_law_closed", none), "_law_closed", "_law_closed", defArgs s_law_closed, defBody s_law_closed, defScope s_law_closed, [], []⟩
def dd_law_reached : He.DefD := ⟨("_law_reached", none), "_law_reached", "_law_reached", defArgs s_law_reached, defBody s_law_reached, defScope s_law_reached, [], []⟩
def dd_law : He.DefD := ⟨("law", none), "law", "law", defArgs s_law, defBody s_law, defScope s_law, [], []⟩
def fn : List He.DefD := [dd_at_once, dd_causes, dd_chain_to, dd_followed, dd_chain, dd_Rule_init, dd_Shelf_init, dd_Shelf_names, dd_Shelf_has, dd_Shelf_unit, dd_Shelf_needing, dd_Shelf_barred, dd_Shelf_waited, dd_Unit_init, dd_law_bag, dd_law_take, dd_law_name, dd_law_names, dd_law_rule_parts, dd_law_rule, dd_law_some, dd_law_facts, dd_law_unit, dd_law_units, dd_law_needing, dd_law_barred, dd_law_next, dd_law_without_lacks, dd_law_demands, dd_law_closed, dd_law_reached, dd_law]
def fa : List He.Fa := [.glo "at_once", .glo "causes", .glo "chain_to", .glo "followed", .glo "chain", .meth "Shelf" "names", .meth "Shelf" "has", .meth "Shelf" "unit", .meth "Shelf" "needing", .meth "Shelf" "barred", .meth "Shelf" "waited", .glo "_law_bag", .glo "_law_take", .glo "_law_name", .glo "_law_names", .glo "_law_rule_parts", .glo "_law_rule", .glo "_law_some", .glo "_law_facts", .glo "_law_unit", .glo "_law_units", .glo "_law_needing", .glo "_law_barred", .glo "_law_next", .glo "_law_without_lacks", .glo "_law_demands", .glo "_law_closed", .glo "_law_reached", .glo "law", .glo "Rule", .cls "Rule", .mkr "Rule", .noat "Rule" "first", .noat "Rule" "times", .noat "Rule" "top", .noat "Rule" "burst", .noat "Rule" "span", .glo "Shelf", .cls "Shelf", .mkr "Shelf", .noat "Shelf" "by_name", .glo "Unit", .cls "Unit", .mkr "Unit", .noat "Unit" "name", .noat "Unit" "kind", .noat "Unit" "needs", .noat "Unit" "wants", .noat "Unit" "bars", .noat "Unit" "after", .noat "Unit" "opens", .noat "Unit" "rule", .int "MOST" 16, .free "sorted", .free "list", .free "len", .free "isinstance", .free "str", .free "abs", .free "int", .free "range", .free "tuple", .free "all", .free "max", .free "zip", .free "min", .free "set"]
abbrev R : PySem.W.OpenRow := PySem.W.OpenLaw.row PySem.Challenge.rw_unitwants_k17_whole_least_closures
def exB (K : PySem.W.Frag) : Bool := UO.insB "Unit" K && UO.insB "Rule" K && UO.tup0B K (UO.kwAdr K ("Unit", some "__init__") "needs") && UO.tup0B K (UO.kwAdr K ("Unit", some "__init__") "wants") && UO.tup0B K (UO.kwAdr K ("Unit", some "__init__") "bars") && UO.tup0B K (UO.kwAdr K ("Unit", some "__init__") "after") && UO.pairB "Unit" "Rule" K && UO.pairB "Rule" "Unit" K && UO.tup0B K (He.dflAt ("Shelf", some "__init__") 0 K)
abbrev hk : PySem.W.Hook := UH.hookA (3 :: 2 :: UH.upto 2500 4) fa fn exB
def ob (s : PySem.W.SharedT) : UO.AlB := UH.obsA (3 :: 2 :: UH.upto 2500 4) fa fn exB (HandSHeadRun.getT s)
theorem ob_eq (s : PySem.W.SharedT) : ob s = hk.obs s.abs := UH.obsA_eq (HandSHeadRun.getT_eq s)
def lo : List PySem.Str := ["_wall", "own_copy", "UnitError", "Lack", "NoUnit", "NoShelf", "at_once", "causes", "chain_to", "followed", "chain", "Rule", "Shelf", "Unit", "_law_bag", "_law_take", "_law_name", "_law_names", "_law_rule_parts", "_law_rule", "_law_some", "_law_facts", "_law_unit", "_law_units", "_law_needing", "_law_barred", "_law_next", "_law_without_lacks", "_law_demands", "_law_closed", "_law_reached", "MOST"]
set_option maxHeartbeats 0 in
theorem run1 (w : World) (os : PySem.OsState) : (HandSHeadRun.endF (HandSHeadRun.stepQ (HandSHeadRun.denQ HandSHeadRun.tabQ) R.prog w) 8000 R.prog w os).map (fun s => HandSHeadRun.looksF R.prog (PySem.W.boot_heap w.params) s.abs) = some true := by kernel_rfl
set_option maxHeartbeats 0 in
theorem run2 (w : World) (os : PySem.OsState) : (HandSHeadRun.endF (HandSHeadRun.stepQ (HandSHeadRun.denQ HandSHeadRun.tabQ) R.prog w) 8000 R.prog w os).map (fun s => HandSHeadRun.seenQ (PySem.W.view R.prog [38]) lo (PySem.importedModules R.prog.main.body) (fun s => PySem.W.xlAt (PySem.W.view R.prog [38]) [] s && PySem.W.recOk R.toRowW.records s) s.abs) = some (PySem.W.openGood (PySem.W.view R.prog [38]) lo) := by kernel_rfl
set_option maxHeartbeats 0 in
theorem run3 (w : World) (os : PySem.OsState) : (HandSHeadRun.endF (HandSHeadRun.stepQ (HandSHeadRun.denQ HandSHeadRun.tabQ) R.prog w) 8000 R.prog w os).map ob = some (hk.val w) := by kernel_rfl
theorem run (w : World) : HandSHeadRun.RunEq R (PySem.W.view R.prog [38]) hk ob 8000 lo w := UH.run_of (r := R) (q := (PySem.W.view R.prog [38])) (H := hk) (ob := ob) (M := 8000) (loose := lo) (run1 w) (run2 w) (run3 w)
theorem facts {P : Program} {w : World} {K : PySem.W.Frag} {h : Heap} {mg : Str → Option Value} {f : Addr} (X : K.In h) (G : h.Ns mainGlobals mg) (hfa : mg ("law" : Str) = some (.ref f)) (c : He.SaysD fa fn K) (cx : exB K = true) :
    ∃ fd : FuncData, (∀ (s : Shared) (v : Value), BindsTo s fd ⟨[v], []⟩ [("_law_script", v)]) ∧ ∀ base : Heap, K.In base → base.Ns mainGlobals mg → FnOk P w K mg base CX0 8 f fd ["_law_script"] (sp_law K) := by
  obtain ⟨d0, F0⟩ := c.def_ 0 (d := dd_at_once) rfl
  obtain ⟨d1, F1⟩ := c.def_ 1 (d := dd_causes) rfl
  obtain ⟨d2, F2⟩ := c.def_ 2 (d := dd_chain_to) rfl
  obtain ⟨d3, F3⟩ := c.def_ 3 (d := dd_followed) rfl
  obtain ⟨d4, F4⟩ := c.def_ 4 (d := dd_chain) rfl
  obtain ⟨d5, F5⟩ := c.def_ 5 (d := dd_Rule_init) rfl
  obtain ⟨d6, F6⟩ := c.def_ 6 (d := dd_Shelf_init) rfl
  obtain ⟨d7, F7⟩ := c.def_ 7 (d := dd_Shelf_names) rfl
  obtain ⟨d8, F8⟩ := c.def_ 8 (d := dd_Shelf_has) rfl
  obtain ⟨d9, F9⟩ := c.def_ 9 (d := dd_Shelf_unit) rfl
  obtain ⟨d10, F10⟩ := c.def_ 10 (d := dd_Shelf_needing) rfl
  obtain ⟨d11, F11⟩ := c.def_ 11 (d := dd_Shelf_barred) rfl
  obtain ⟨d12, F12⟩ := c.def_ 12 (d := dd_Shelf_waited) rfl
  obtain ⟨d13, F13⟩ := c.def_ 13 (d := dd_Unit_init) rfl
  obtain ⟨d14, F14⟩ := c.def_ 14 (d := dd_law_bag) rfl
  obtain ⟨d15, F15⟩ := c.def_ 15 (d := dd_law_take) rfl
  obtain ⟨d16, F16⟩ := c.def_ 16 (d := dd_law_name) rfl
  obtain ⟨d17, F17⟩ := c.def_ 17 (d := dd_law_names) rfl
  obtain ⟨d18, F18⟩ := c.def_ 18 (d := dd_law_rule_parts) rfl
  obtain ⟨d19, F19⟩ := c.def_ 19 (d := dd_law_rule) rfl
  obtain ⟨d20, F20⟩ := c.def_ 20 (d := dd_law_some) rfl
  obtain ⟨d21, F21⟩ := c.def_ 21 (d := dd_law_facts) rfl
  obtain ⟨d22, F22⟩ := c.def_ 22 (d := dd_law_unit) rfl
  obtain ⟨d23, F23⟩ := c.def_ 23 (d := dd_law_units) rfl
  obtain ⟨d24, F24⟩ := c.def_ 24 (d := dd_law_needing) rfl
  obtain ⟨d25, F25⟩ := c.def_ 25 (d := dd_law_barred) rfl
  obtain ⟨d26, F26⟩ := c.def_ 26 (d := dd_law_next) rfl
  obtain ⟨d27, F27⟩ := c.def_ 27 (d := dd_law_without_lacks) rfl
  obtain ⟨d28, F28⟩ := c.def_ 28 (d := dd_law_demands) rfl
  obtain ⟨d29, F29⟩ := c.def_ 29 (d := dd_law_closed) rfl
  obtain ⟨d30, F30⟩ := c.def_ 30 (d := dd_law_reached) rfl
  obtain ⟨d31, F31⟩ := c.def_ 31 (d := dd_law) rfl
  let T : Txt K mg := {
    d_at_once := d0
    F_at_once := F0
    b_at_once := FunD.bindsN (ps := ["shelf", "demand"]) F0 fun _ _ _ _ _ _ us hl => match us, hl with | [_, _], _ => rfl
    d_causes := d1
    F_causes := F1
    b_causes := FunD.bindsN (ps := ["shelf", "demands"]) F1 fun _ _ _ _ _ _ us hl => match us, hl with | [_, _], _ => rfl
    d_chain_to := d2
    F_chain_to := F2
    b_chain_to := FunD.bindsN (ps := ["found", "goal"]) F2 fun _ _ _ _ _ _ us hl => match us, hl with | [_, _], _ => rfl
    d_followed := d3
    F_followed := F3
    b_followed := FunD.bindsN (ps := ["shelf", "demands"]) F3 fun _ _ _ _ _ _ us hl => match us, hl with | [_, _], _ => rfl
    d_chain := d4
    F_chain := F4
    b_chain := FunD.bindsN (ps := ["shelf", "demands", "goal"]) F4 fun _ _ _ _ _ _ us hl => match us, hl with | [_, _, _], _ => rfl
    d_Rule_init := d5
    F_Rule_init := F5
    d_Shelf_init := d6
    F_Shelf_init := F6
    b2_Shelf_init := UP.binds_all (FunD.binds1 (ps := ["self", "units"]) F6 2 1 (List.cons_ne_nil _ _) rfl fun _ _ _ _ _ _ _ us its h1 h2 => match us, its, h1, h2 with | [_, _], [_], _, _ => ⟨_, rfl, rfl⟩)
    b1_Shelf_init := FunD.binds1 (ps := ["self", "units"]) F6 1 0 (List.cons_ne_nil _ _) rfl fun _ _ _ _ _ _ _ us its h1 h2 => match us, its, h1, h2 with | [_], [_], _, _ => ⟨_, rfl, rfl⟩
    d_Shelf_names := d7
    F_Shelf_names := F7
    b_Shelf_names := FunD.bindsN (ps := ["self"]) F7 fun _ _ _ _ _ _ us hl => match us, hl with | [_], _ => rfl
    d_Shelf_has := d8
    F_Shelf_has := F8
    b_Shelf_has := FunD.bindsN (ps := ["self", "name"]) F8 fun _ _ _ _ _ _ us hl => match us, hl with | [_, _], _ => rfl
    d_Shelf_unit := d9
    F_Shelf_unit := F9
    b_Shelf_unit := FunD.bindsN (ps := ["self", "name"]) F9 fun _ _ _ _ _ _ us hl => match us, hl with | [_, _], _ => rfl
    d_Shelf_needing := d10
    F_Shelf_needing := F10
    b_Shelf_needing := FunD.bindsN (ps := ["self", "name"]) F10 fun _ _ _ _ _ _ us hl => match us, hl with | [_, _], _ => rfl
    d_Shelf_barred := d11
    F_Shelf_barred := F11
    b_Shelf_barred := FunD.bindsN (ps := ["self", "name"]) F11 fun _ _ _ _ _ _ us hl => match us, hl with | [_, _], _ => rfl
    d_Shelf_waited := d12
    F_Shelf_waited := F12
    b_Shelf_waited := FunD.bindsN (ps := ["self", "name"]) F12 fun _ _ _ _ _ _ us hl => match us, hl with | [_, _], _ => rfl
    d_Unit_init := d13
    F_Unit_init := F13
    d_law_bag := d14
    F_law_bag := F14
    b_law_bag := FunD.bindsN (ps := ["_law_script", "_law_at"]) F14 fun _ _ _ _ _ _ us hl => match us, hl with | [_, _], _ => rfl
    d_law_take := d15
    F_law_take := F15
    b_law_take := FunD.bindsN (ps := ["_law_bag_here", "_law_size"]) F15 fun _ _ _ _ _ _ us hl => match us, hl with | [_, _], _ => rfl
    d_law_name := d16
    F_law_name := F16
    b_law_name := FunD.bindsN (ps := ["_law_bag_here"]) F16 fun _ _ _ _ _ _ us hl => match us, hl with | [_], _ => rfl
    d_law_names := d17
    F_law_names := F17
    b_law_names := FunD.bindsN (ps := ["_law_bag_here", "_law_size"]) F17 fun _ _ _ _ _ _ us hl => match us, hl with | [_, _], _ => rfl
    d_law_rule_parts := d18
    F_law_rule_parts := F18
    b_law_rule_parts := FunD.bindsN (ps := ["_law_bag_here"]) F18 fun _ _ _ _ _ _ us hl => match us, hl with | [_], _ => rfl
    d_law_rule := d19
    F_law_rule := F19
    b_law_rule := FunD.bindsN (ps := ["_law_five"]) F19 fun _ _ _ _ _ _ us hl => match us, hl with | [_], _ => rfl
    d_law_some := d20
    F_law_some := F20
    b_law_some := FunD.bindsN (ps := ["_law_bag_here", "_law_pool", "_law_most"]) F20 fun _ _ _ _ _ _ us hl => match us, hl with | [_, _, _], _ => rfl
    d_law_facts := d21
    F_law_facts := F21
    b_law_facts := FunD.bindsN (ps := ["_law_bag_here", "_law_most"]) F21 fun _ _ _ _ _ _ us hl => match us, hl with | [_, _], _ => rfl
    d_law_unit := d22
    F_law_unit := F22
    b_law_unit := FunD.bindsN (ps := ["_law_word", "_law_facts_here"]) F22 fun _ _ _ _ _ _ us hl => match us, hl with | [_, _], _ => rfl
    d_law_units := d23
    F_law_units := F23
    b_law_units := FunD.bindsN (ps := ["_law_facts_here"]) F23 fun _ _ _ _ _ _ us hl => match us, hl with | [_], _ => rfl
    d_law_needing := d24
    F_law_needing := F24
    b_law_needing := FunD.bindsN (ps := ["_law_facts_here", "_law_word"]) F24 fun _ _ _ _ _ _ us hl => match us, hl with | [_, _], _ => rfl
    d_law_barred := d25
    F_law_barred := F25
    b_law_barred := FunD.bindsN (ps := ["_law_facts_here", "_law_word"]) F25 fun _ _ _ _ _ _ us hl => match us, hl with | [_, _], _ => rfl
    d_law_next := d26
    F_law_next := F26
    b_law_next := FunD.bindsN (ps := ["_law_facts_here", "_law_demand"]) F26 fun _ _ _ _ _ _ us hl => match us, hl with | [_, _], _ => rfl
    d_law_without_lacks := d27
    F_law_without_lacks := F27
    b_law_without_lacks := FunD.bindsN (ps := ["_law_facts_here"]) F27 fun _ _ _ _ _ _ us hl => match us, hl with | [_], _ => rfl
    d_law_demands := d28
    F_law_demands := F28
    b_law_demands := FunD.bindsN (ps := ["_law_bag_here", "_law_words"]) F28 fun _ _ _ _ _ _ us hl => match us, hl with | [_, _], _ => rfl
    d_law_closed := d29
    F_law_closed := F29
    b_law_closed := FunD.bindsN (ps := ["_law_made", "_law_some_here", "_law_told"]) F29 fun _ _ _ _ _ _ us hl => match us, hl with | [_, _, _], _ => rfl
    d_law_reached := d30
    F_law_reached := F30
    b_law_reached := FunD.bindsN (ps := ["_law_made", "_law_some_here", "_law_told", "_law_words"]) F30 fun _ _ _ _ _ _ us hl => match us, hl with | [_, _, _, _], _ => rfl
    d_law := d31
    F_law := F31
    b_law := FunD.bindsN (ps := ["_law_script"]) F31 fun _ _ _ _ _ _ us hl => match us, hl with | [_], _ => rfl
    m_at_once := He.glo_ok X G (c.fact 0 (f := .glo "at_once") rfl)
    m_causes := He.glo_ok X G (c.fact 1 (f := .glo "causes") rfl)
    m_chain_to := He.glo_ok X G (c.fact 2 (f := .glo "chain_to") rfl)
    m_followed := He.glo_ok X G (c.fact 3 (f := .glo "followed") rfl)
    m_chain := He.glo_ok X G (c.fact 4 (f := .glo "chain") rfl)
    me_Shelf_names := He.meth_ok (c.fact 5 (f := .meth "Shelf" "names") rfl)
    me_Shelf_has := He.meth_ok (c.fact 6 (f := .meth "Shelf" "has") rfl)
    me_Shelf_unit := He.meth_ok (c.fact 7 (f := .meth "Shelf" "unit") rfl)
    me_Shelf_needing := He.meth_ok (c.fact 8 (f := .meth "Shelf" "needing") rfl)
    me_Shelf_barred := He.meth_ok (c.fact 9 (f := .meth "Shelf" "barred") rfl)
    me_Shelf_waited := He.meth_ok (c.fact 10 (f := .meth "Shelf" "waited") rfl)
    m_law_bag := He.glo_ok X G (c.fact 11 (f := .glo "_law_bag") rfl)
    m_law_take := He.glo_ok X G (c.fact 12 (f := .glo "_law_take") rfl)
    m_law_name := He.glo_ok X G (c.fact 13 (f := .glo "_law_name") rfl)
    m_law_names := He.glo_ok X G (c.fact 14 (f := .glo "_law_names") rfl)
    m_law_rule_parts := He.glo_ok X G (c.fact 15 (f := .glo "_law_rule_parts") rfl)
    m_law_rule := He.glo_ok X G (c.fact 16 (f := .glo "_law_rule") rfl)
    m_law_some := He.glo_ok X G (c.fact 17 (f := .glo "_law_some") rfl)
    m_law_facts := He.glo_ok X G (c.fact 18 (f := .glo "_law_facts") rfl)
    m_law_unit := He.glo_ok X G (c.fact 19 (f := .glo "_law_unit") rfl)
    m_law_units := He.glo_ok X G (c.fact 20 (f := .glo "_law_units") rfl)
    m_law_needing := He.glo_ok X G (c.fact 21 (f := .glo "_law_needing") rfl)
    m_law_barred := He.glo_ok X G (c.fact 22 (f := .glo "_law_barred") rfl)
    m_law_next := He.glo_ok X G (c.fact 23 (f := .glo "_law_next") rfl)
    m_law_without_lacks := He.glo_ok X G (c.fact 24 (f := .glo "_law_without_lacks") rfl)
    m_law_demands := He.glo_ok X G (c.fact 25 (f := .glo "_law_demands") rfl)
    m_law_closed := He.glo_ok X G (c.fact 26 (f := .glo "_law_closed") rfl)
    m_law_reached := He.glo_ok X G (c.fact 27 (f := .glo "_law_reached") rfl)
    m_law := He.glo_ok X G (c.fact 28 (f := .glo "law") rfl)
    m_Rule := He.glo_ok X G (c.fact 29 (f := .glo "Rule") rfl)
    cl_Rule := He.cls_ok (c.fact 30 (f := .cls "Rule") rfl)
    mk_Rule := He.mkr_ok (c.fact 31 (f := .mkr "Rule") rfl)
    na_Rule_first := He.noat_ok (c.fact 32 (f := .noat "Rule" "first") rfl)
    na_Rule_times := He.noat_ok (c.fact 33 (f := .noat "Rule" "times") rfl)
    na_Rule_top := He.noat_ok (c.fact 34 (f := .noat "Rule" "top") rfl)
    na_Rule_burst := He.noat_ok (c.fact 35 (f := .noat "Rule" "burst") rfl)
    na_Rule_span := He.noat_ok (c.fact 36 (f := .noat "Rule" "span") rfl)
    m_Shelf := He.glo_ok X G (c.fact 37 (f := .glo "Shelf") rfl)
    cl_Shelf := He.cls_ok (c.fact 38 (f := .cls "Shelf") rfl)
    mk_Shelf := He.mkr_ok (c.fact 39 (f := .mkr "Shelf") rfl)
    na_Shelf_by_name := He.noat_ok (c.fact 40 (f := .noat "Shelf" "by_name") rfl)
    m_Unit := He.glo_ok X G (c.fact 41 (f := .glo "Unit") rfl)
    cl_Unit := He.cls_ok (c.fact 42 (f := .cls "Unit") rfl)
    mk_Unit := He.mkr_ok (c.fact 43 (f := .mkr "Unit") rfl)
    na_Unit_name := He.noat_ok (c.fact 44 (f := .noat "Unit" "name") rfl)
    na_Unit_kind := He.noat_ok (c.fact 45 (f := .noat "Unit" "kind") rfl)
    na_Unit_needs := He.noat_ok (c.fact 46 (f := .noat "Unit" "needs") rfl)
    na_Unit_wants := He.noat_ok (c.fact 47 (f := .noat "Unit" "wants") rfl)
    na_Unit_bars := He.noat_ok (c.fact 48 (f := .noat "Unit" "bars") rfl)
    na_Unit_after := He.noat_ok (c.fact 49 (f := .noat "Unit" "after") rfl)
    na_Unit_opens := He.noat_ok (c.fact 50 (f := .noat "Unit" "opens") rfl)
    na_Unit_rule := He.noat_ok (c.fact 51 (f := .noat "Unit" "rule") rfl)
    c_MOST := He.int_ok X G (c.fact 52 (f := .int "MOST" 16) rfl)
    n_sorted := He.free_ok X G (c.fact 53 (f := .free "sorted") rfl)
    n_list := He.free_ok X G (c.fact 54 (f := .free "list") rfl)
    n_len := He.free_ok X G (c.fact 55 (f := .free "len") rfl)
    n_isinstance := He.free_ok X G (c.fact 56 (f := .free "isinstance") rfl)
    n_str := He.free_ok X G (c.fact 57 (f := .free "str") rfl)
    n_abs := He.free_ok X G (c.fact 58 (f := .free "abs") rfl)
    n_int := He.free_ok X G (c.fact 59 (f := .free "int") rfl)
    n_range := He.free_ok X G (c.fact 60 (f := .free "range") rfl)
    n_tuple := He.free_ok X G (c.fact 61 (f := .free "tuple") rfl)
    n_all := He.free_ok X G (c.fact 62 (f := .free "all") rfl)
    n_max := He.free_ok X G (c.fact 63 (f := .free "max") rfl)
    n_zip := He.free_ok X G (c.fact 64 (f := .free "zip") rfl)
    n_min := He.free_ok X G (c.fact 65 (f := .free "min") rfl)
    n_set := He.free_ok X G (c.fact 66 (f := .free "set") rfl)
    ix_Unit := UO.insB_ok (He.ba (He.ba (He.ba (He.ba (He.ba (He.ba (He.ba (He.ba cx).1).1).1).1).1).1).1).1
    ix_Rule := UO.insB_ok (He.ba (He.ba (He.ba (He.ba (He.ba (He.ba (He.ba (He.ba cx).1).1).1).1).1).1).1).2
    e0_Unit_init_needs := fun H => UO.tup0B_ok (He.ba (He.ba (He.ba (He.ba (He.ba (He.ba (He.ba cx).1).1).1).1).1).1).2 H
    e0_Unit_init_wants := fun H => UO.tup0B_ok (He.ba (He.ba (He.ba (He.ba (He.ba (He.ba cx).1).1).1).1).1).2 H
    e0_Unit_init_bars := fun H => UO.tup0B_ok (He.ba (He.ba (He.ba (He.ba (He.ba cx).1).1).1).1).2 H
    e0_Unit_init_after := fun H => UO.tup0B_ok (He.ba (He.ba (He.ba (He.ba cx).1).1).1).2 H
    px_Unit_Rule := UO.pairB_ok (He.ba (He.ba (He.ba cx).1).1).2
    px_Rule_Unit := UO.pairB_ok (He.ba (He.ba cx).1).2
    e1_Shelf_init := fun H => UO.tup0B_ok (He.ba cx).2 H
    kb_Rule_init_1_first_times_top_burst_span := kb_Rule_init_1_first_times_top_burst_span_mk F5
    kb_Unit_init_2_kind_needs_wants_bars_after_opens_rule := kb_Unit_init_2_kind_needs_wants_bars_after_opens_rule_mk F13 }
  have e := hfa.symm.trans T.m_law
  cases e
  have b := FunD.bindsA (ps := ["_law_script"]) T.F_law fun _ _ _ _ _ _ us hl => match us, hl with | [_], _ => rfl
  exact ⟨T.d_law, fun s v => b s [v] rfl, fun base _ _ => ok_law T⟩
end K17
open PySem PySem.W PySem.Calls PyProof.Rows
set_option maxRecDepth 100000 in
set_option maxHeartbeats 0 in
theorem PySem.Challenge.cw_unitwants_k17_whole_least_closures_holds : PySem.Challenge.rw_unitwants_k17_whole_least_closures.Holds := by
  w_on; o_law
  refine HandSHeadRun.head_any (r := OpenLaw.row PySem.Challenge.rw_unitwants_k17_whole_least_closures) (q := view (OpenLaw.row PySem.Challenge.rw_unitwants_k17_whole_least_closures).prog [38]) (H := K17.hk) (ob := K17.ob) (M := 8000) (loose := K17.lo) (d := HandSHeadRun.topDef (OpenLaw.row PySem.Challenge.rw_unitwants_k17_whole_least_closures).prog 38) (kwd := []) K17.ob_eq
    (by kernel_rfl) (fun s => by kernel_rfl) K17.run (by kernel_rfl) (by kernel_rfl) (by kernel_rfl) (by rfl) (by first | assumption | decide +kernel) (by decide +kernel) ⟨rfl, rfl, rfl, rfl, rfl, by decide +kernel⟩ ?hw ?hc
  case hw => w_witness2
  case hc =>
    refine L2.walk_ofE (l := PySem.Challenge.rw_unitwants_k17_whole_least_closures) (n := 63) (k := 8) (x := "_law_script") (CX := L2.CX0) rfl (by decide) (by kernel_rfl) ⟨rfl, by decide, by decide⟩ ?F (fun _ _ _ _ z => z)
    intro w mg fa h Y G hmg0
    obtain ⟨K, KX, c, cx⟩ := Y
    have hmg : mg ("law" : PySem.Str) = some (.ref fa) := by
      have e : (HandSHeadRun.topDef (OpenLaw.row PySem.Challenge.rw_unitwants_k17_whole_least_closures).prog 38).name = ("law" : PySem.Str) := by kernel_rfl
      rw [← e]
      exact hmg0
    obtain ⟨fd, hb, hF⟩ := K17.facts (P := (PySem.Challenge.rw_unitwants_k17_whole_least_closures).prog) (w := w) KX G hmg c cx
    exact ⟨K, fd, K17.sp_law K, KX, hb, fun H a ns hl _ hS => ⟨a, ns, rfl, hS, hl, fun _ => rfl⟩, hF⟩
