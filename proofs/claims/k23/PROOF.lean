import PyProof.Rows.All
import Wide.All
import OpenK.AllK
import Wide.FinOn
import KE.KStateDown
import HandS.ForMost
import HandS.More
import HandS.WordsExc
import HandS.Defaults
import HandS.MakeKwOnly
import HandS.IsInst
import HandS.FStr
import HandS.Walk
import HandS.TupAny
import HandS.SortKw
import HandS.OwnEq
import KE.KFmtOwn
import KE.DataMinMax
import KE.DatumOrd
import KE.SortData
import HandS.Deep
import HandS.SetKeys
import HandS.DictComp
import HandS.Conv
import HandS.Style
import HandS.Evl
import HandS.Head0
import HandS.Head1
import HandS.Head2
import HandS.HeadEnd
import HandS.HeadHook1
import HandS.HeadHook2
import PySem.Challenge.RW_unitwants_k23_names_of_none
import HandS.TryOnly
import HandS.ExcInit
import HandS.ExcValue
import HandS.ExcCtx
import HandS.ExcInitHot
import HandS.HotCalls
import HandS.ExcField
import HandS.ExcIs
import HandS.FStrTup
import HandS.Star
import KE.KExcInit
import KE.KExcIs
import KE.GoesMore
import KE.GoesEnum
import PyProof.Walk
import PyProof.WalkLemmas
import HandS.Hot
import HandS.Comp
import PyProof.CallFns
import PyProof.Rows.FactsExc_KeyError
import PyProof.ExcBaseAll.LookupError
set_option Elab.async false
set_option linter.all false
set_option maxRecDepth 100000
set_option maxHeartbeats 4000000
/-! own layer: heaps, rules that lacked, the bag of draws -/
namespace UW
open PySem PySem.Spec PyProof.Rows L2

/-! ### heaps -/
theorem same_upd {H : Hp} {p : Addr} {o : HO} (h : H p = none) : Same H (upd H p o) := fun b x e => by
  rw [upd_ne (ne_of_none e h)]
  exact e
theorem new_at {H H2 : Hp} {p : Addr} {o : HO} (e : upd H p o = H2) : H2 p = some o := by
  rw [← e]
  exact upd_same
theorem new_same {H H2 : Hp} {p : Addr} {o : HO} (e : upd H p o = H2) (h : H p = none) : Same H H2 := by
  rw [← e]
  exact same_upd h
/-- all but p is as it was -/
def Kp (p : Addr) (H H' : Hp) : Prop := ∀ c o, H c = some o → c ≠ p → H' c = some o
theorem Kp.refl (p : Addr) (H : Hp) : Kp p H H := fun _ _ h _ => h
theorem Kp.trans {p : Addr} {H H1 H2 : Hp} (a : Kp p H H1) (b : Kp p H1 H2) : Kp p H H2 := fun c o h n => b c o (a c o h n) n
theorem Kp.of {p : Addr} {H H' : Hp} (s : Same H H') : Kp p H H' := fun c o h _ => s c o h
theorem Kp.same {p : Addr} {H H1 H2 : Hp} (a : Kp p H H1) (b : Same H1 H2) : Kp p H H2 := a.trans (.of b)
theorem mut_keep {H H2 : Hp} {p : Addr} {o : HO} (e : upd H p o = H2) : Kp p H H2 := fun c x h n => by
  rw [← e, upd_ne n]
  exact h
/-- an object that H did not know has changed -/
theorem Kp.own {p q : Addr} {H H1 H2 : Hp} (a : Kp p H H1) (b : Kp q H1 H2) (n : H q = none) : Kp p H H2 := fun c o h m => b c o (a c o h m) (ne_of_none h n)
theorem Same.own {q : Addr} {H H1 H2 : Hp} (a : Same H H1) (b : Kp q H1 H2) (n : H q = none) : Same H H2 := fun c o h => b c o (a c o h) (ne_of_none h n)
theorem Kp.free {p q : Addr} {H H' : Hp} (a : Kp p H H') (h : H' q = none) (n : q ≠ p) : H q = none := by
  cases e : H q with
  | none => rfl
  | some o =>
    rw [a q o e n] at h
    cases h
theorem Kp.seq {K : PySem.W.Frag} {p a : Addr} {H H' : Hp} {xs : List V} (k : Kp p H H') (n : a ≠ p) (h : SqL K H a xs) : SqL K H' a xs := by
  rcases h with (h | ⟨o, h⟩) | h
  · exact .inl (.inl (k _ _ h n))
  · exact .inl (.inr ⟨o, k _ _ h n⟩)
  · exact .inr h
theorem ne_some {H : Hp} {a b : Addr} {o : HO} (h : H a = some o) (n : H b = none) : a ≠ b := fun e => by
  rw [e, n] at h
  cases h

/-! ### rules that lacked -/
section
variable {X : Cx}
def CPowL (i j : Int) : Prop := 0 ≤ j ∧ j ≤ 100 ∧ i.natAbs < 2 ^ 1000
theorem op_powL : OpR X (binaryOp .Pow) (rI CPowL fun i j => .int (i ^ j.toNat)) := opI fun i j _ _ _ _ _ hc q => by
  obtain ⟨h1, h2, h3⟩ := hc
  have b := intBits_le h3
  refine pow_int h1 ?_ q
  have b' : (Builtin.Int.intBits i : Int) ≤ 1000 := by exact_mod_cast b
  have b0 : (0 : Int) ≤ (Builtin.Int.intBits i : Int) := Int.natCast_nonneg _
  have := Int.mul_le_mul b' h2 h1 (by decide)
  exact Int.le_trans this (by decide)
def ipC (C : Int → Int → Prop) (f : Int → Int → Int) : TIp := fun x y H Q => ∃ i j, x = .int i ∧ y = .int j ∧ C i j ∧ Q (.int (f i j)) H
theorem ip_mul : PIp X .Mult (ipC CMul fun i j => i * j) := by
  intro pins s σ H x y v u Q I r1 r2 h
  obtain ⟨i, j, e1, e2, hc, q⟩ := h
  subst e1; subst e2
  obtain ⟨t, rfl⟩ := r1
  obtain ⟨t', rfl⟩ := r2
  exact imul_int ⟨.int _, H, I.tok _, ⟨_, rfl⟩, q⟩ hc.ok
theorem vals_take {vs : List V} {us : List Value} (h : Vals vs us) : ∀ n, Vals (vs.take n) (us.take n) := by
  induction h with
  | nil => intro n; rw [List.take_nil, List.take_nil]; exact .nil
  | cons r _ ih =>
    intro n
    cases n with
    | zero => exact .nil
    | succ n => exact .cons r (ih n)
/-- f(k = v, ..) -/
theorem pe_callN0 {CX : CXT} {k : Nat} {f : Addr} {fd : FuncData} {ps ks : List Str} {sp : Sp} {E : XK} {x : Str} {p pos : Pos} {kws : List Keyword} {tk : TA} {g : List Value → List Value → List Value} {gV : List V → List V → List V}
    (F : FnOk X.prog X.w X.K X.mg X.base CX k f fd ps sp) (hr : Room k X.A) (hg : Gl X x) (hm : X.mg x = some (.ref f)) (hk : PySem.W.keepIn X.K (.ref f) = true) (hb : KBn X.K fd ps 0 ks g gV) (hx : Passes CX X E) (hkw : PK X kws tk)
    (hall : (backToKw pos (keywordEach kws X.env)).all (·.1.isSome) = true := by rfl) (hks : (backToKw pos (keywordEach kws X.env)).filterMap (·.1) = ks := by rfl) (hdb : (x == ("__debug__" : Str)) = false := by decide)
    (hpl : ((backTo pos (starEach [] X.env)).any (·.1) || (backToKw pos (keywordEach kws X.env)).any (·.1.isNone)) = false := by rfl) :
    PE X (.Call (.Name x p) [] kws pos) (tCallN 0 ks.length sp gV E tNil tk) := by
  refine ⟨fun pins s σ H Q I h => ?_⟩
  refine wpAny_Call_Name_kw (ld_glob I hg hm ?_ hdb)
  refine PySem.W.callWith_KW0 (h₀ := X.base) I.ok.mod.kin hk hall ?_ hpl
  refine thn (hkw.run pos pins s σ H _ I h) fun ws s2 ⟨zs, H2, I2, rz, l1, l2, q2⟩ => ⟨I2.kIn, ?_⟩
  rw [hks]
  exact run_fnN (us := []) (vs := []) F hr hb hx I2 .nil rz rfl l2 q2
end

/-! ### the bag of draws -/
structure Bag (n : Nat) (H : Hp) (p : Addr) : Prop where
  ex : ∃ a b c : Int, H p = some (.lst [.int a, .int b, .int c]) ∧ 0 ≤ a ∧ 0 ≤ b ∧ b < 2 ^ 64 ∧ 0 ≤ c ∧ c ≤ n
theorem Bag.le {n m : Nat} {H : Hp} {p : Addr} (b : Bag n H p) (h : n ≤ m) : Bag m H p := by
  obtain ⟨a, x, c, h1, h2, h3, h4, h5, h6⟩ := b.ex
  exact ⟨a, x, c, h1, h2, h3, h4, h5, by omega⟩
theorem Bag.same {n : Nat} {H H' : Hp} {p : Addr} (b : Bag n H p) (s : Same H H') : Bag n H' p := by
  obtain ⟨a, x, c, h1, h⟩ := b.ex
  exact ⟨a, x, c, s _ _ h1, h⟩
theorem Bag.keep {n : Nat} {H H' : Hp} {p q : Addr} (b : Bag n H p) (s : Kp q H H') (ne : p ≠ q) : Bag n H' p := by
  obtain ⟨a, x, c, h1, h⟩ := b.ex
  exact ⟨a, x, c, s _ _ h1 ne, h⟩
theorem Bag.ne {n : Nat} {H : Hp} {p q : Addr} (b : Bag n H p) (h : H q = none) : p ≠ q := by
  obtain ⟨a, x, c, h1, _⟩ := b.ex
  exact ne_some h1 h
theorem Bag.some {n : Nat} {H : Hp} {p : Addr} (b : Bag n H p) : ∃ o, H p = some o := by
  obtain ⟨a, x, c, h1, _⟩ := b.ex
  exact ⟨_, h1⟩
/-- the five numbers of a rule within their bounds -/
structure Five (f m t b s : Int) : Prop where
  f1 : 1 ≤ f
  f2 : f ≤ 1000
  m1 : 1 ≤ m
  m2 : m ≤ 10
  t1 : 1 ≤ t
  t2 : t ≤ 1000000
  b1 : 0 ≤ b
  b2 : b ≤ 20
  s1 : 0 ≤ s
  s2 : s ≤ 1000000
end UW
namespace UW
open PySem L2
/-- for i, x in enumerate(xs), both names plain -/
theorem for_enum2 {K : PySem.W.Frag} {a : Addr} {xs : List V} {i j : Nat} {tb : TS} {D : Ends} {σ : St} {H : Hp} (Pv : Nat → St → Hp → Prop) (h0 : Pv 0 σ H) (hl : ∀ k σ H, k ≤ xs.length → Pv k σ H → SqL K H a xs)
    (hs : ∀ k x σ H H2, xs[k]? = some x → Pv k σ H → Same H H2 → tb { D with nx := Pv (k + 1), ct := Pv (k + 1), bk := D.nx } ((σ.set i (some (.int (k : Nat)))).set j (some x)) H2) (hd : ∀ σ H, Pv xs.length σ H → D.nx σ H) :
    ∃ W : Nat → Nat → St → Hp → Prop, (∃ m, W 0 m σ H) ∧ ∀ k m σ H, W k m σ H →
      ((Ite K a).stop k H ∧ D.nx σ H) ∨ ((Ite K a).go k H ∧ ∃ N : St → Hp → Prop, (∀ σ' H', N σ' H' → ∃ m', m' < m ∧ W (k + 1) m' σ' H') ∧ ∀ x H', (Ite K a).yld k H x H' → gTup K 2 (gCons (gName i) (gCons (gName j) gNil)) x σ H' fun σ2 H2 => tb { D with nx := N, ct := N, bk := D.nx } σ2 H2) := by
  refine for_it walk_enum Pv h0 hl (fun k v σ H H' hk p y => ?_) hd
  obtain ⟨T, x, y, rfl, nT, rfl, e1, e2⟩ := y
  cases e1
  exact ⟨T, _, rfl, .inl (.inl upd_same), rfl, _, _, rfl, _, _, rfl, rfl, hs k y σ H _ e2 p (same_upd nT)⟩
/-- one item of a short list by its place -/
theorem at0 {α : Type} {a : α} {r : List α} : atI (a :: r) 0 = some a := atI_nat (j := 0) rfl
theorem at1 {α : Type} {a b : α} {r : List α} : atI (a :: b :: r) 1 = some b := atI_nat (j := 1) rfl
theorem at2 {α : Type} {a b c : α} {r : List α} : atI (a :: b :: c :: r) 2 = some c := atI_nat (j := 2) rfl
theorem at3 {α : Type} {a b c d : α} {r : List α} : atI (a :: b :: c :: d :: r) 3 = some d := atI_nat (j := 3) rfl
theorem at4 {α : Type} {a b c d e : α} {r : List α} : atI (a :: b :: c :: d :: e :: r) 4 = some e := atI_nat (j := 4) rfl
end UW
namespace UW
open PySem L2
theorem bag_made {H : Hp} {p : Addr} {c k : Int} {b : Bool} (h0 : 0 ≤ k) (h1 : k ≤ 1000) : Bag 0 (upd H p (.lst [.int ((if c < 0 then -c else c) * (if b = true then 1 else 0)), .int (c % (10 ^ (18 : Int).toNat + 9) + 1299709 * k), .int 0])) p := by
  refine ⟨_, _, _, upd_same, ?_, ?_, ?_, Int.le_refl _, Int.le_refl _⟩
  · have : (0 : Int) ≤ if c < 0 then -c else c := by split <;> omega
    cases b
    · simp
    · simpa using this
  · have e : (10 ^ (18 : Int).toNat + 9 : Int) = 1000000000000000009 := by decide
    rw [e]
    omega
  · have e : (10 ^ (18 : Int).toNat + 9 : Int) = 1000000000000000009 := by decide
    rw [e]
    omega
end UW
namespace UW
open PySem L2
theorem cmul_b {i : Int} {b : Bool} : CMul i (if b = true then 1 else 0) := by
  cases b
  · exact .inr ⟨by decide, by decide⟩
  · exact .inr ⟨by decide, by decide⟩
theorem pow10 {j : Int} (h0 : 0 ≤ j := by decide) (h1 : j ≤ 100 := by decide) : CPowL 10 j :=
  ⟨h0, h1, Nat.lt_of_lt_of_le (show (10 : Int).natAbs < 2 ^ 4 by decide) (Nat.pow_le_pow_right (by decide) (by decide))⟩
/-- the primes of a draw -/
abbrev primes : List V := [.int 2147483647, .int 2147483629, .int 2147483587, .int 2147483579, .int 2147483563, .int 2147483549, .int 2147483543, .int 2147483497]
theorem prime_at (c : Int) : ∃ p : Int, atI primes (c % 8) = some (.int p) ∧ 0 < p ∧ p < 2147483648 := by
  have h0 : 0 ≤ c % 8 := Int.emod_nonneg _ (by decide)
  have h1 : c % 8 < 8 := Int.emod_lt_of_pos _ (by decide)
  generalize c % 8 = d at h0 h1
  obtain ⟨k, rfl⟩ := Int.eq_ofNat_of_zero_le h0
  have hk : k < 8 := by omega
  match k, hk with
  | 0, _ => exact ⟨_, atI_nat (j := 0) rfl, by decide, by decide⟩
  | 1, _ => exact ⟨_, atI_nat (j := 1) rfl, by decide, by decide⟩
  | 2, _ => exact ⟨_, atI_nat (j := 2) rfl, by decide, by decide⟩
  | 3, _ => exact ⟨_, atI_nat (j := 3) rfl, by decide, by decide⟩
  | 4, _ => exact ⟨_, atI_nat (j := 4) rfl, by decide, by decide⟩
  | 5, _ => exact ⟨_, atI_nat (j := 5) rfl, by decide, by decide⟩
  | 6, _ => exact ⟨_, atI_nat (j := 6) rfl, by decide, by decide⟩
  | 7, _ => exact ⟨_, atI_nat (j := 7) rfl, by decide, by decide⟩
theorem basis_small {b c : Int} (h0 : 0 ≤ b) (h1 : b < 2 ^ 64) (h2 : 0 ≤ c) (h3 : c < 2000000000) : (b * (2 * c + 1) + 7919 * c * c + 29).natAbs < 2 ^ 1000 := by
  have e1 : b * (2 * c + 1) ≤ 2 ^ 64 * (2 * 2000000000 + 1) := Int.mul_le_mul (by omega) (by omega) (by omega) (by decide)
  have e2 : 7919 * c * c ≤ 7919 * 2000000000 * 2000000000 := Int.mul_le_mul (by omega) (by omega) h2 (by decide)
  have e3 : 0 ≤ b * (2 * c + 1) := Int.mul_nonneg h0 (by omega)
  have e4 : 0 ≤ 7919 * c * c := Int.mul_nonneg (by omega) h2
  refine Nat.lt_of_lt_of_le (m := 2 ^ 200) ?_ (Nat.pow_le_pow_right (by decide) (by decide))
  have e5 : b * (2 * c + 1) + 7919 * c * c + 29 < 2 ^ 200 := by
    have : (2 ^ 64 * (2 * 2000000000 + 1) + 7919 * 2000000000 * 2000000000 + 29 : Int) < 2 ^ 200 := by decide
    omega
  omega
end UW
namespace UW
open PySem L2
/-- a draw: a number from 0 to below a size; the bag alone has changed -/
@[irreducible] def spTake : Sp := fun vs H Q _ => ∃ (p : Addr) (z : Int) (n : Nat), vs = [.ref p, .int z] ∧ Bag n H p ∧ 0 < z ∧ z < 1073741824 ∧ n < 1000000000 ∧
  ∀ (r : Int) H', 0 ≤ r → r < z → Bag (n + 1) H' p → Kp p H H' → Q (.int r) H'
theorem take_of {H : Hp} {p : Addr} {n : Nat} {z : Int} {Q : VK} {E : XK} (B : Bag n H p) (h0 : 0 < z) (h1 : z < 1073741824) (hn : n < 1000000000)
    (q : ∀ (r : Int) H', 0 ≤ r → r < z → Bag (n + 1) H' p → Kp p H H' → Q (.int r) H') : spTake [.ref p, .int z] H Q E := by
  unfold spTake
  exact ⟨p, z, n, rfl, B, h0, h1, hn, q⟩
theorem take_un {vs : List V} {H : Hp} {Q : VK} {E : XK} (h : spTake vs H Q E) : ∃ (p : Addr) (z : Int) (n : Nat), vs = [.ref p, .int z] ∧ Bag n H p ∧ 0 < z ∧ z < 1073741824 ∧ n < 1000000000 ∧
    ∀ (r : Int) H', 0 ≤ r → r < z → Bag (n + 1) H' p → Kp p H H' → Q (.int r) H' := by
  unfold spTake at h
  exact h
/-- take(bag, [z1, ..][take(bag, k)]), the menu just laid at l -/
theorem take_menu {K : PySem.W.Frag} {H : Hp} {p l : Addr} {n : Nat} {zs : List Int} {k : Int} {Q : VK} {E E' : XK} (B : Bag n H p) (hn : n < 900000000) (hl : H l = none) (hk : k = (zs.length : Int)) (hz0 : 0 < zs.length) (hz1 : zs.length < 1000) (hz : ∀ z ∈ zs, 0 < z ∧ z < 1073741824)
    (q : ∀ (z r : Int) H', z ∈ zs → 0 ≤ r → r < z → Bag (n + 2) H' p → Kp p H H' → Q (.int r) H') :
    spTake [.ref p, .int k] (upd H l (.lst (zs.map V.int))) (fun v H2 => rIxL K (.ref l) v H2 fun w H3 => spTake [.ref p, w] H3 Q E) E' := by
  subst hk
  generalize hE : upd H l _ = H1
  have k1 := new_at hE
  have s1 := new_same hE hl
  have npl := B.ne hl
  refine take_of (B.same s1) (by omega) (by omega) (by omega) fun r H2 r0 r1 B2 kp2 => ?_
  obtain ⟨j, rfl⟩ := Int.eq_ofNat_of_zero_le r0
  have hj : j < zs.length := by omega
  have hm : zs[j] ∈ zs := List.getElem_mem hj
  refine ⟨l, _, _, .int zs[j], rfl, rfl, SqL.of (kp2 _ _ k1 npl.symm), atI_nat (by rw [List.getElem?_map, List.getElem?_eq_getElem hj]; rfl), ?_⟩
  refine take_of B2 (hz _ hm).1 (hz _ hm).2 (by omega) fun r2 H3 q0 q1 B3 kp3 => ?_
  exact q _ r2 H3 hm q0 q1 B3 ((Kp.of s1).trans (kp2.trans kp3))
end UW
namespace UW
open PySem L2
section
variable {X : Cx}
/-- a statement, then the rest, with a word between -/
def tMid (t u : TS) : TS := fun D σ H => ∃ M : L2.St → Hp → Prop, t { D with nx := M } σ H ∧ ∀ σ' H', M σ' H' → u D σ' H'
theorem pss_mid {st : Stmt} {rest : List Stmt} {t u : TS} (h1 : PS X st t) (h2 : PSs X rest u) : PSs X (st :: rest) (tMid t u) := by
  refine ⟨fun pins s σ H D I h => ?_⟩
  obtain ⟨M, hm, hu⟩ := h
  refine wpAny_execs_cons (thn (h1.run pins s σ H { D with nx := M } I hm) fun f s1 q => ?_)
  cases f with
  | next =>
    obtain ⟨σ', H', I', q⟩ := q
    exact h2.run pins s1 σ' H' D I' (hu σ' H' q)
  | ret v => exact q
  | brk => exact q
  | cont => exact q
/-- an expression with a word behind it -/
def tMidE (t : TE) : TE := fun σ H Q => ∃ M : VK, t σ H M ∧ ∀ v H', M v H' → Q v H'
theorem pe_mid {e : Expr} {t : TE} (h : PE X e t) : PE X e (tMidE t) := by
  refine ⟨fun pins s σ H Q I ⟨M, hm, hq⟩ => ?_⟩
  exact thn (h.run pins s σ H M I hm) fun u s1 ⟨v, H', I', r, q⟩ => ⟨v, H', I', r, hq v H' q⟩
def tMidT (t : TT) : TT := fun σ H Q => ∃ M : Bool → Hp → Prop, t σ H M ∧ ∀ b H', M b H' → Q b H'
theorem pt_mid {e : Expr} {t : TT} (h : PT X e t) : PT X e (tMidT t) := by
  refine ⟨fun pins s σ H Q I ⟨M, hm, hq⟩ => ?_⟩
  exact thn (h.run pins s σ H M I hm) fun b s1 ⟨H', I', q⟩ => ⟨H', I', hq b H' q⟩
end
end UW
namespace UW
theorem iteY {c A B : Prop} [Decidable c] (hc : c) (h : A) : if c then A else B := by
  rw [if_pos hc]
  exact h
theorem iteN {c A B : Prop} [Decidable c] (hc : ¬ c) (h : B) : if c then A else B := by
  rw [if_neg hc]
  exact h
theorem iteYd {c A B : Prop} [Decidable c] (hc : c) (h : A) : if decide c = true then A else B := iteY (decide_eq_true hc) h
theorem iteNd {c A B : Prop} [Decidable c] (hc : ¬ c) (h : B) : if decide c = true then A else B := iteN (fun z => hc (of_decide_eq_true z)) h
end UW
namespace UW
open PySem L2
/-- None, truths, ints -/
def flatN : V → Bool
  | .non => true
  | .bl _ => true
  | .int _ => true
  | _ => false
def flatD : V → PyData
  | .non => .none
  | .bl b => .bool b
  | .int i => .int i
  | _ => .none
theorem dp_flat {K : PySem.W.Frag} {H : Hp} {v : V} (h : flatN v = true) : Dp K H v (flatD v) := by
  cases v with
  | non => exact .non
  | bl b => exact .bl b
  | int i => exact .int i
  | _ => cases h
theorem dpAll_flat {K : PySem.W.Frag} {H : Hp} : ∀ {xs : List V}, (∀ v ∈ xs, flatN v = true) → DpAll K H xs (xs.map flatD)
  | [], _ => .nil
  | v :: vs, h => .cons (dp_flat (h v (List.mem_cons_self ..))) (dpAll_flat fun x hx => h x (List.mem_cons_of_mem _ hx))
theorem lay_flat (v : V) : PyData.canLay0 (flatD v) = true ∧ PyData.depth (flatD v) = 0 := by
  cases v <;> exact ⟨by simp only [flatD, PyData.canLay0], by simp only [flatD, PyData.depth]⟩
theorem layAll_flat : ∀ xs : List V, PyData.canLayAll0 (xs.map flatD) = true ∧ PyData.depthAll (xs.map flatD) = 0
  | [] => ⟨by simp only [List.map_nil, PyData.canLayAll0], by simp only [List.map_nil, PyData.depthAll]⟩
  | v :: vs => by
    obtain ⟨a, b⟩ := lay_flat v
    obtain ⟨c, d⟩ := layAll_flat vs
    rw [List.map_cons]
    exact ⟨by simp only [PyData.canLayAll0, a, c, Bool.and_self], by simp only [PyData.depthAll, b, d, Nat.max_self]⟩
theorem shaped_flat (xs : List V) : SeqAt.shaped (.list (xs.map flatD)) = true := by
  obtain ⟨c, d⟩ := layAll_flat xs
  unfold SeqAt.shaped
  simp only [PyData.canLay0, PyData.depth, c, d]
  decide
theorem neD_same {K : PySem.W.Frag} {H : Hp} {a b : Addr} {xs : List V} {Q : VK} (h1 : SqL K H a xs) (h2 : SqL K H b xs) (hf : ∀ v ∈ xs, flatN v = true) (q : Q (.bl false) H) : rNeD K (.ref a) (.ref b) H Q := by
  refine ⟨_, _, .lst h1 (dpAll_flat hf), .lst h2 (dpAll_flat hf), shaped_flat xs, shaped_flat xs, ?_⟩
  have e : PyData.eqv (.list (xs.map flatD)) (.list (xs.map flatD)) = true := SeqAt.eqv_refl _ (by simp only [PyData.canLay0]; exact (layAll_flat xs).1)
  rw [e]
  exact q
end UW
namespace UW
open PySem L2
theorem yes_of {σ : L2.St} {H : Hp} {Q : Bool → Hp → Prop} (h : Q true H) : tYes σ H Q := h
end UW
namespace UW
open PySem L2
/-- max(xs, default=d) of ints: some int -/
def rMaxD (K : PySem.W.Frag) : List V → List V → Hp → VK → Prop := fun vs zs H Q => ∃ (a : Addr) (ns : List Int) (d : Int), vs = [.ref a] ∧ zs = [.int d] ∧ SqL K H a (ns.map V.int) ∧ ∀ m : Int, Q (.int m) H
theorem ints_flatD (ns : List Int) : (ns.map V.int).map flatD = ns.map PyData.int := by
  rw [List.map_map]
  rfl
theorem cr_maxD {X : Cx} (hc : X.calm = true) (hu : X.A.units + 64 < cLine) : CallRK X (.builtin "max") [Str.ofString "default"] (rMaxD X.K) := by
  intro pins s σ H vs zs us ws Q I r rz h
  obtain ⟨a, ns, d, rfl, rfl, hs, q⟩ := h
  obtain ⟨its, rv, hl, _⟩ := I.list hs
  rw [Vals.ref1 r]
  obtain ⟨w1, rfl, t1, rfl⟩ := vals1 rz
  obtain ⟨as, hr⟩ := Dp.readsAll I ((ns.map V.int).map flatD) _ _ (dpAll_flat (K := X.K) (H := H) (xs := ns.map V.int) fun v hv => by
    obtain ⟨i, _, rfl⟩ := List.mem_map.mp hv
    rfl) rv
  have hd := (layAll_flat (ns.map V.int)).2
  refine PySem.W.max_list_default (I.ok.hd hc) hl.isList (vs := its.toArray) hr ⟨?_, ?_⟩ (by rw [hd]; omega) (fun _ h' tk hk => ⟨.int d, H, I.kept hk, ⟨_, rfl⟩, q d⟩) fun y ys i v h' tk bs _ hi _ hk => ?_
  · rw [ints_flatD]
    intro x hx y hy
    obtain ⟨i, _, rfl⟩ := List.mem_map.mp hx
    obtain ⟨j, _, rfl⟩ := List.mem_map.mp hy
    simp only [PySem.W.alike]
  · rw [ints_flatD]
    intro x hx
    obtain ⟨i, _, rfl⟩ := List.mem_map.mp hx
    intro z
    cases z
  · have hv : ∃ n t, v = .int n t := by
      have hi' : its[i]? = some v := by rw [← List.getElem?_toArray]; exact hi
      have : ∀ (vs : List V) (us : List Value) (i : Nat) (v : Value), Vals vs us → us[i]? = some v → ∃ x, vs[i]? = some x ∧ RelV x v := by
        intro vs us i v r
        induction r generalizing i with
        | nil => intro h; simp at h
        | cons r1 _ ih =>
          intro h
          cases i with
          | zero => cases h; exact ⟨_, rfl, r1⟩
          | succ i => exact ih i h
      obtain ⟨x, hx, rx⟩ := this _ _ _ _ rv hi'
      rw [List.getElem?_map] at hx
      cases e : ns[i]? with
      | none => rw [e] at hx; cases hx
      | some n =>
        rw [e] at hx
        cases hx
        obtain ⟨t, rfl⟩ := rx
        exact ⟨n, t, rfl⟩
    obtain ⟨n, t, rfl⟩ := hv
    exact ⟨.int n, H, I.kept hk, ⟨_, rfl⟩, q n⟩
end UW
namespace UW
open PySem L2
theorem ints_flat' (ts : List Int) : ∀ v ∈ ts.map V.int, flatN v = true := fun v hv => by
  obtain ⟨i, _, rfl⟩ := List.mem_map.mp hv
  rfl
theorem eqvAll_len : ∀ xs ys : List PyData, xs.length ≠ ys.length → PyData.eqvAll xs ys = false
  | [], [], h => absurd rfl h
  | [], _ :: _, _ => by simp only [PyData.eqvAll]
  | _ :: _, [], _ => by simp only [PyData.eqvAll]
  | x :: xs, y :: ys, h => by
    simp only [PyData.eqvAll]
    rw [eqvAll_len xs ys (fun e => h (by rw [List.length_cons, List.length_cons, e])), Bool.and_false]
theorem neD_diff {K : PySem.W.Frag} {H : Hp} {a b : Addr} {xs ys : List V} {Q : VK} (h1 : SqL K H a xs) (h2 : SqL K H b ys) (hf : ∀ v ∈ xs, flatN v = true) (hg : ∀ v ∈ ys, flatN v = true) (hl : xs.length ≠ ys.length) (q : Q (.bl true) H) : rNeD K (.ref a) (.ref b) H Q := by
  refine ⟨_, _, .lst h1 (dpAll_flat hf), .lst h2 (dpAll_flat hg), shaped_flat xs, shaped_flat ys, ?_⟩
  have e : PyData.eqv (.list (xs.map flatD)) (.list (ys.map flatD)) = false := by
    simp only [PyData.eqv]
    exact eqvAll_len _ _ (by rw [List.length_map, List.length_map]; exact hl)
  rw [e]
  exact q
theorem eqD_same {K : PySem.W.Frag} {H : Hp} {a b : Addr} {xs : List V} {Q : VK} (h1 : SqL K H a xs) (h2 : SqL K H b xs) (hf : ∀ v ∈ xs, flatN v = true) (q : Q (.bl true) H) : rEqD K (.ref a) (.ref b) H Q := by
  refine ⟨_, _, .lst h1 (dpAll_flat hf), .lst h2 (dpAll_flat hf), shaped_flat xs, shaped_flat xs, ?_⟩
  have e : PyData.eqv (.list (xs.map flatD)) (.list (xs.map flatD)) = true := SeqAt.eqv_refl _ (by simp only [PyData.canLay0]; exact (layAll_flat xs).1)
  rw [e]
  exact q
end UW
namespace UW
open PySem L2
theorem slA {K : PySem.W.Frag} {H : Hp} {a : Addr} {xs : List V} {lo hi : Option Int} {Q : VK} (h : SqT K H a xs) (q : ∀ p H', Same H H' → SqT K H' p (cutV xs lo hi) → Q (.ref p) H') : rSlA K (.ref a) lo hi H Q := by
  refine ⟨a, xs, rfl, h, fun e => ?_, fun _ p np => ?_⟩
  · refine q a H (Same.refl H) ?_
    have : cutV xs lo hi = xs := by
      unfold cutV
      rw [e.1, e.2, List.drop_zero, Nat.sub_zero, List.take_length]
    rw [this]
    exact h
  · exact q p _ (same_upd np) (SqT.of upd_same)
theorem catA {K : PySem.W.Frag} {H : Hp} {a b : Addr} {xs ys : List V} {Q : VK} (h : SqT K H a xs) (h2 : SqT K H b ys) (hl : xs.length + ys.length ≤ 1000) (q : ∀ p H', Same H H' → SqT K H' p (xs ++ ys) → Q (.ref p) H') : rCatA K (.ref a) (.ref b) H Q := by
  refine ⟨a, b, xs, ys, rfl, rfl, h, h2, Nat.le_trans hl (by decide), fun e => ?_, fun _ e => ?_, fun _ _ p np => ?_⟩
  · exact q b H (Same.refl H) (by rw [e]; exact h2)
  · exact q a H (Same.refl H) (by rw [e, List.append_nil]; exact h)
  · exact q p _ (same_upd np) (SqT.of upd_same)
end UW
namespace UW
open PySem L2
/-! ### names -/
/-- one to eight letters -/
def Nm (x : Str) : Prop := (∀ c ∈ x.cps.toList, 97 ≤ c ∧ c ≤ 122) ∧ 0 < x.length ∧ x.length ≤ 8
abbrev lettersS : Str := Str.ofString "abcdefghijklmnopqrstuvwxyz"
abbrev srettelS : Str := Str.ofString "zyxwvutsrqponmlkjihgfedcba"
theorem letters_tl : lettersS.cps.toList = (List.range 26).map (97 + ·) := by decide +kernel
theorem srettel_tl : srettelS.cps.toList = (List.range 26).map (122 - ·) := by decide +kernel
theorem letters_size : lettersS.cps.size = 26 := by decide +kernel
theorem srettel_size : srettelS.cps.size = 26 := by decide +kernel
theorem len_tl' (x : Str) : x.length = x.cps.toList.length := TL.len_tl x
theorem tl_app (x y : Str) : (x ++ y).cps.toList = x.cps.toList ++ y.cps.toList := TL.tl_append x y
theorem str_ext {x y : Str} (h : x.cps.toList = y.cps.toList) : x = y := TL.ext_tl h
theorem letter_at {r : Int} (h0 : 0 ≤ r) (h1 : r < 26) : ∃ c, atI lettersS.cps.toList r = some c ∧ 97 ≤ c ∧ c ≤ 122 := by
  obtain ⟨j, rfl⟩ := Int.eq_ofNat_of_zero_le h0
  have hj : j < 26 := by omega
  refine ⟨97 + j, atI_nat ?_, by omega, by omega⟩
  rw [letters_tl, List.getElem?_map, List.getElem?_range hj]
  rfl
theorem letters_get {i c : Nat} (h : lettersS.cps[i]? = some c) : i < 26 ∧ c = 97 + i := by
  rw [← Array.getElem?_toList, letters_tl, List.getElem?_map] at h
  by_cases hi : i < 26
  · rw [List.getElem?_range hi] at h
    exact ⟨hi, (Option.some.inj h).symm⟩
  · rw [List.getElem?_eq_none (by rw [List.length_range]; omega)] at h
    cases h
theorem srettel_get {i c : Nat} (h : srettelS.cps[i]? = some c) : i < 26 ∧ c = 122 - i := by
  rw [← Array.getElem?_toList, srettel_tl, List.getElem?_map] at h
  by_cases hi : i < 26
  · rw [List.getElem?_range hi] at h
    exact ⟨hi, (Option.some.inj h).symm⟩
  · rw [List.getElem?_eq_none (by rw [List.length_range]; omega)] at h
    cases h
theorem inV_str (w : Str) : ∀ xs : List Str, inV (.str w) (xs.map V.str) = decide (w ∈ xs)
  | [] => rfl
  | x :: xs => by
    have ih := inV_str w xs
    unfold inV at ih ⊢
    rw [List.map_cons, List.any_cons, ih]
    show (x == w || decide (w ∈ xs)) = decide (w ∈ x :: xs)
    by_cases h : x = w
    · subst h
      rw [beq_self_eq_true, Bool.true_or, decide_eq_true (List.mem_cons_self ..)]
    · rw [show (x == w) = false from beq_eq_false_iff_ne.mpr h, Bool.false_or]
      exact decide_eq_decide.mpr ⟨fun z => List.mem_cons_of_mem _ z, fun z => by
        rcases List.mem_cons.mp z with z | z
        · exact absurd z.symm h
        · exact z⟩
theorem strs_flat (xs : List Str) : (xs.map V.str).all flatV = true := by
  rw [List.all_eq_true]
  intro v hv
  obtain ⟨x, _, rfl⟩ := List.mem_map.mp hv
  rfl
theorem nodup_le {α : Type} [DecidableEq α] : ∀ (cs ds : List α), cs.Nodup → (∀ c ∈ cs, c ∈ ds) → cs.length ≤ ds.length
  | [], _, _, _ => Nat.zero_le _
  | c :: cs, ds, hn, h => by
    obtain ⟨h1, h2⟩ := List.nodup_cons.mp hn
    have hm := h c (List.mem_cons_self ..)
    have ih := nodup_le cs (ds.erase c) h2 fun x hx => by
      have hne : x ≠ c := fun e => h1 (e ▸ hx)
      exact (List.mem_erase_of_ne hne).mpr (h x (List.mem_cons_of_mem _ hx))
    rw [List.length_erase_of_mem hm] at ih
    have := List.length_pos_of_mem hm
    rw [List.length_cons]
    omega
theorem free_in {α : Type} [DecidableEq α] {cs ds : List α} (hn : cs.Nodup) (h : ds.length < cs.length) : ∃ c ∈ cs, c ∉ ds := by
  by_cases q : ∃ c ∈ cs, c ∉ ds
  · exact q
  · have := nodup_le cs ds hn fun c hc => by
      by_cases hd : c ∈ ds
      · exact hd
      · exact absurd ⟨c, hc, hd⟩ q
    omega
/-- the text without its first sign -/
abbrev tailS (w : Str) : Str := cutS w (some 1) none
theorem tailS_tl (w : Str) : (tailS w).cps.toList = w.cps.toList.drop 1 := by
  show (List.take _ _ : List Nat) = _
  rw [show HT.sIx w.length 0 (some 1) = min 1 w.length from HT.sIx_nat w.length 0 1, HT.sIx_none]
  have hl := len_tl' w
  rw [hl]
  by_cases h : 1 ≤ w.cps.toList.length
  · rw [Nat.min_eq_left h, List.take_of_length_le (by rw [List.length_drop]; exact Nat.le_refl _)]
  · rw [Nat.min_eq_right (by omega), Nat.sub_self, List.take_zero, List.drop_of_length_le (by omega)]
theorem sign_app_tl (c : Nat) (x : Str) : ((⟨#[c]⟩ : Str) ++ x).cps.toList = c :: x.cps.toList := by
  rw [tl_app]
  rfl
/-- the 26 texts with another first letter -/
def cands (x : Str) : List Str := (List.range 26).map fun i => (⟨#[97 + i]⟩ : Str) ++ x
theorem cands_nodup (x : Str) : (cands x).Nodup := by
  unfold cands
  rw [List.nodup_iff_pairwise_ne, List.pairwise_map]
  refine List.Pairwise.imp ?_ List.nodup_range
  intro i j hij e
  have := congrArg (fun z : Str => z.cps.toList) e
  rw [show ((⟨#[97 + i]⟩ : Str) ++ x).cps.toList = (97 + i) :: x.cps.toList from sign_app_tl _ _, show ((⟨#[97 + j]⟩ : Str) ++ x).cps.toList = (97 + j) :: x.cps.toList from sign_app_tl _ _] at this
  injection this with h1 _
  omega
theorem cand_nm {w : Str} (h : Nm w) {i : Nat} (hi : i < 26) : Nm ((⟨#[97 + i]⟩ : Str) ++ tailS w) := by
  obtain ⟨h1, h2, h3⟩ := h
  have e := sign_app_tl (97 + i) (tailS w)
  have hl : ((⟨#[97 + i]⟩ : Str) ++ tailS w).length = w.length := by
    rw [len_tl', e, tailS_tl, List.length_cons, List.length_drop, ← len_tl']
    omega
  refine ⟨fun c hc => ?_, by omega, by omega⟩
  rw [e, tailS_tl] at hc
  rcases List.mem_cons.mp hc with rfl | hc
  · omega
  · exact h1 c (List.mem_of_mem_drop hc)
theorem join_one {ys : List Str} (h : ∀ y ∈ ys, ∃ c, y = ⟨#[c]⟩ ∧ 97 ≤ c ∧ c ≤ 122) (h0 : 0 < ys.length) (h8 : ys.length ≤ 8) : Nm (Txt.join (Str.ofString "") ys) := by
  have key : ∀ ys : List Str, (∀ y ∈ ys, ∃ c, y = ⟨#[c]⟩ ∧ 97 ≤ c ∧ c ≤ 122) → (Str.join (Str.ofString "") ys).cps.toList.length = ys.length ∧ ∀ c ∈ (Str.join (Str.ofString "") ys).cps.toList, 97 ≤ c ∧ c ≤ 122 := by
    intro ys
    induction ys with
    | nil => exact fun _ => ⟨rfl, fun c hc => by cases hc⟩
    | cons y ys ih =>
      intro h
      obtain ⟨c, rfl, h1, h2⟩ := h y (List.mem_cons_self ..)
      cases ys with
      | nil =>
        refine ⟨rfl, fun d hd => ?_⟩
        have hd' : d ∈ [c] := hd
        rw [List.mem_singleton.mp hd']
        exact ⟨h1, h2⟩
      | cons z zs =>
        obtain ⟨i1, i2⟩ := ih fun y hy => h y (List.mem_cons_of_mem _ hy)
        have e : (Str.join (Str.ofString "") (⟨#[c]⟩ :: z :: zs)).cps.toList = c :: (Str.join (Str.ofString "") (z :: zs)).cps.toList := by
          show ((⟨#[c]⟩ : Str) ++ Str.ofString "" ++ Str.join (Str.ofString "") (z :: zs)).cps.toList = _
          rw [tl_app, tl_app]
          rfl
        rw [e]
        refine ⟨by rw [List.length_cons, i1]; rfl, fun d hd => ?_⟩
        rcases List.mem_cons.mp hd with rfl | hd
        · exact ⟨h1, h2⟩
        · exact i2 d hd
  obtain ⟨k1, k2⟩ := key ys h
  rw [TL.join_eq]
  exact ⟨k2, by rw [len_tl', k1]; exact h0, by rw [len_tl', k1]; exact h8⟩
end UW
namespace UW
theorem range_map_succ' {α : Type} (g : Nat → α) (n : Nat) : (List.range (n + 1)).map g = (List.range n).map g ++ [g n] := by
  rw [List.range_succ, List.map_append]
  rfl
end UW
namespace UW
open PySem L2
/-! ### lists and tuples of texts compared -/
theorem Nm.ok {x : Str} (h : Nm x) : PyData.strOk x = true := by
  unfold PyData.strOk
  rw [Array.all_eq_true']
  intro c hc
  have := (h.1 c (Array.mem_toList_iff.mpr hc)).2
  exact decide_eq_true (by omega)
theorem dpAll_strs {K : PySem.W.Frag} {H : Hp} : ∀ xs : List Str, DpAll K H (xs.map V.str) (xs.map PyData.str)
  | [] => .nil
  | x :: xs => .cons (.str x) (dpAll_strs xs)
theorem layAll_strs : ∀ {xs : List Str}, (∀ x ∈ xs, PyData.strOk x = true) → PyData.canLayAll0 (xs.map PyData.str) = true ∧ PyData.depthAll (xs.map PyData.str) = 0
  | [], _ => ⟨by simp only [List.map_nil, PyData.canLayAll0], by simp only [List.map_nil, PyData.depthAll]⟩
  | x :: xs, h => by
    obtain ⟨c, d⟩ := layAll_strs fun y hy => h y (List.mem_cons_of_mem _ hy)
    rw [List.map_cons]
    exact ⟨by simp only [PyData.canLayAll0, PyData.canLay0, h x (List.mem_cons_self ..), c, Bool.and_self], by simp only [PyData.depthAll, PyData.depth, d, Nat.max_self]⟩
theorem shaped_strs {xs : List Str} (h : ∀ x ∈ xs, PyData.strOk x = true) : SeqAt.shaped (.list (xs.map PyData.str)) = true := by
  obtain ⟨c, d⟩ := layAll_strs h
  unfold SeqAt.shaped
  simp only [PyData.canLay0, PyData.depth, c, d]
  decide
theorem eqvAll_strs : ∀ xs ys : List Str, PyData.eqvAll (xs.map PyData.str) (ys.map PyData.str) = decide (xs = ys)
  | [], [] => by simp only [List.map_nil, PyData.eqvAll]; rfl
  | [], y :: ys => by simp only [List.map_nil, List.map_cons, PyData.eqvAll]; rfl
  | x :: xs, [] => by simp only [List.map_nil, List.map_cons, PyData.eqvAll]; rfl
  | x :: xs, y :: ys => by
    simp only [List.map_cons, PyData.eqvAll, PyData.eqv]
    rw [eqvAll_strs xs ys]
    by_cases h : x = y
    · subst h
      rw [beq_self_eq_true, Bool.true_and]
      exact decide_eq_decide.mpr ⟨fun e => by rw [e], fun e => by injection e⟩
    · rw [show (x == y) = false from beq_eq_false_iff_ne.mpr h, Bool.false_and]
      exact (decide_eq_false fun e => h (by injection e)).symm
/-- xs != ys of texts -/
theorem neD_strs {K : PySem.W.Frag} {H : Hp} {a b : Addr} {xs ys : List Str} {Q : VK} (h1 : SqL K H a (xs.map V.str)) (h2 : SqL K H b (ys.map V.str)) (hx : ∀ x ∈ xs, PyData.strOk x = true) (hy : ∀ y ∈ ys, PyData.strOk y = true) (q : Q (.bl (!decide (xs = ys))) H) : rNeD K (.ref a) (.ref b) H Q := by
  refine ⟨_, _, .lst h1 (dpAll_strs xs), .lst h2 (dpAll_strs ys), shaped_strs hx, shaped_strs hy, ?_⟩
  have e : PyData.eqv (.list (xs.map PyData.str)) (.list (ys.map PyData.str)) = decide (xs = ys) := by
    simp only [PyData.eqv]
    exact eqvAll_strs xs ys
  rw [e]
  exact q
theorem seq_ix {r : Int} {n : Nat} (h0 : 0 ≤ r) (h1 : r < n) : seqIndex? r n = some r.toNat := (ixN_seq (by
  unfold ixN
  rw [if_pos h0, if_pos h1])).1
end UW
namespace UW
theorem perm_pick {α : Type} : ∀ (ls : List α) (k : Nat) (h : k < ls.length), (ls[k] :: ls.eraseIdx k).Perm ls
  | [], _, h => absurd h (Nat.not_lt_zero _)
  | x :: xs, 0, _ => List.Perm.refl _
  | x :: xs, k + 1, h => by
    have hk : k < xs.length := by simpa using h
    have ih := perm_pick xs k hk
    show (xs[k] :: x :: xs.eraseIdx k).Perm (x :: xs)
    exact (List.Perm.swap _ _ _).trans (List.Perm.cons x ih)
theorem map_pick {α β : Type} (f : α → β) : ∀ (ls : List α) (k : Nat), (ls.map f).eraseIdx k = (ls.eraseIdx k).map f
  | [], _ => rfl
  | x :: xs, 0 => rfl
  | x :: xs, k + 1 => by
    show f x :: (xs.map f).eraseIdx k = f x :: (xs.eraseIdx k).map f
    rw [map_pick f xs k]
end UW
namespace UW
open PySem L2
theorem cutV_to {xs : List V} {n : Nat} : cutV xs none (some (n : Int)) = xs.take n := by
  unfold cutV
  rw [show HT.sIx xs.length xs.length (some (n : Int)) = min n xs.length from HT.sIx_nat xs.length xs.length n, HT.sIx_none]
  show (xs.drop 0).take (min n xs.length - 0) = xs.take n
  rw [List.drop_zero, Nat.sub_zero]
  by_cases h : n ≤ xs.length
  · rw [Nat.min_eq_left h]
  · rw [Nat.min_eq_right (by omega), List.take_length, List.take_of_length_le (by omega)]
theorem menu_ix {zs : List Int} {r : Int} (h0 : 0 ≤ r) (h1 : r < zs.length) : ∃ z, z ∈ zs ∧ atI (zs.map V.int) r = some (.int z) := by
  obtain ⟨j, rfl⟩ := Int.eq_ofNat_of_zero_le h0
  have hj : j < zs.length := by omega
  exact ⟨zs[j], List.getElem_mem hj, atI_nat (by rw [List.getElem?_map, List.getElem?_eq_getElem hj]; rfl)⟩
theorem menu_str {zs : List Str} {r : Int} (h0 : 0 ≤ r) (h1 : r < zs.length) : ∃ z, z ∈ zs ∧ atI (zs.map V.str) r = some (.str z) := by
  obtain ⟨j, rfl⟩ := Int.eq_ofNat_of_zero_le h0
  have hj : j < zs.length := by omega
  exact ⟨zs[j], List.getElem_mem hj, atI_nat (by rw [List.getElem?_map, List.getElem?_eq_getElem hj]; rfl)⟩
/-! ### facts of units -/
/-- what a unit is made of -/
structure UF where
  kind : Str
  needs : List Str
  wants : List Str
  bars : List Str
  after : List Str
  opens : Option Str
  five : Option (Int × Int × Int × Int × Int)
deriving DecidableEq
def UF.named (u : UF) : List Str := u.needs ++ u.wants ++ u.bars ++ u.after ++ u.opens.toList
def optV : Option Str → V
  | none => .non
  | some x => .str x
def FiveAt (H : Hp) : V → Option (Int × Int × Int × Int × Int) → Prop
  | v, none => v = .non
  | v, some (f, m, t, b, s) => ∃ p, v = .ref p ∧ H p = some (.tup [.int f, .int m, .int t, .int b, .int s]) ∧ Five f m t b s
/-- the seven facts stand in a tuple -/
def FactAt (H : Hp) (v : V) (u : UF) : Prop := ∃ (t n w b a : Addr) (g : V), v = .ref t ∧ H t = some (.tup [.str u.kind, .ref n, .ref w, .ref b, .ref a, optV u.opens, g]) ∧
  H n = some (.tup (u.needs.map V.str)) ∧ H w = some (.tup (u.wants.map V.str)) ∧ H b = some (.tup (u.bars.map V.str)) ∧ H a = some (.tup (u.after.map V.str)) ∧ FiveAt H g u.five
def NotTup (H : Hp) (q : Addr) : Prop := ∀ xs, H q ≠ some (.tup xs)
theorem NotTup.ne {H : Hp} {q c : Addr} {xs : List V} (h : NotTup H q) (e : H c = some (.tup xs)) : c ≠ q := fun z => h xs (z ▸ e)
theorem NotTup.lst {H : Hp} {q : Addr} {xs : List V} (h : H q = some (.lst xs)) : NotTup H q := fun ys e => by rw [h] at e; cases e
theorem NotTup.dK {H : Hp} {q : Addr} {kvs : List (Key × V)} (h : H q = some (.dK kvs)) : NotTup H q := fun ys e => by rw [h] at e; cases e
theorem NotTup.none {H : Hp} {q : Addr} (h : H q = Option.none) : NotTup H q := fun ys e => by rw [h] at e; cases e
theorem Bag.notTup {n : Nat} {H : Hp} {p : Addr} (b : Bag n H p) : NotTup H p := by
  obtain ⟨_, _, _, h, _⟩ := b.ex
  exact .lst h
theorem FiveAt.keep {H H' : Hp} {q : Addr} {v : V} {o : Option (Int × Int × Int × Int × Int)} (h : FiveAt H v o) (k : Kp q H H') (n : NotTup H q) : FiveAt H' v o := by
  cases o with
  | none => exact h
  | some o =>
    obtain ⟨f, m, t, b, s⟩ := o
    obtain ⟨p, e, hp, F⟩ := h
    exact ⟨p, e, k _ _ hp (n.ne hp), F⟩
theorem FactAt.keep {H H' : Hp} {q : Addr} {v : V} {u : UF} (h : FactAt H v u) (k : Kp q H H') (n : NotTup H q) : FactAt H' v u := by
  obtain ⟨t, a1, a2, a3, a4, g, e, h0, h1, h2, h3, h4, h5⟩ := h
  exact ⟨t, a1, a2, a3, a4, g, e, k _ _ h0 (n.ne h0), k _ _ h1 (n.ne h1), k _ _ h2 (n.ne h2), k _ _ h3 (n.ne h3), k _ _ h4 (n.ne h4), h5.keep k n⟩
theorem FiveAt.same {H H' : Hp} {v : V} {o : Option (Int × Int × Int × Int × Int)} (h : FiveAt H v o) (s : Same H H') : FiveAt H' v o := by
  cases o with
  | none => exact h
  | some o =>
    obtain ⟨f, m, t, b, s'⟩ := o
    obtain ⟨p, e, hp, F⟩ := h
    exact ⟨p, e, s _ _ hp, F⟩
theorem FactAt.same {H H' : Hp} {v : V} {u : UF} (h : FactAt H v u) (s : Same H H') : FactAt H' v u := by
  obtain ⟨t, a1, a2, a3, a4, g, e, h0, h1, h2, h3, h4, h5⟩ := h
  exact ⟨t, a1, a2, a3, a4, g, e, s _ _ h0, s _ _ h1, s _ _ h2, s _ _ h3, s _ _ h4, h5.same s⟩
/-- a dict of facts by names -/
inductive FactsAt (H : Hp) : List (Key × V) → List (Str × UF) → Prop
  | nil : FactsAt H [] []
  | snoc {kvs : List (Key × V)} {us : List (Str × UF)} {w : Str} {v : V} {u : UF} (h : FactsAt H kvs us) (e : FactAt H v u) : FactsAt H (kvs ++ [(Sum.inr w, v)]) (us ++ [(w, u)])
theorem FactsAt.keep {H H' : Hp} {q : Addr} {kvs : List (Key × V)} {us : List (Str × UF)} (h : FactsAt H kvs us) (k : Kp q H H') (n : NotTup H q) : FactsAt H' kvs us := by
  induction h with
  | nil => exact .nil
  | snoc _ e ih => exact .snoc ih (e.keep k n)
theorem FactsAt.same {H H' : Hp} {kvs : List (Key × V)} {us : List (Str × UF)} (h : FactsAt H kvs us) (s : Same H H') : FactsAt H' kvs us := by
  induction h with
  | nil => exact .nil
  | snoc _ e ih => exact .snoc ih (e.same s)
theorem FactsAt.len {H : Hp} {kvs : List (Key × V)} {us : List (Str × UF)} (h : FactsAt H kvs us) : kvs.length = us.length := by
  induction h with
  | nil => rfl
  | snoc _ _ ih => rw [List.length_append, List.length_append, ih]; rfl
theorem FactsAt.keys {H : Hp} {kvs : List (Key × V)} {us : List (Str × UF)} (h : FactsAt H kvs us) : kvs.map (·.1) = us.map fun p => (Sum.inr p.1 : Key) := by
  induction h with
  | nil => rfl
  | snoc _ _ ih => rw [List.map_append, List.map_append, ih]; rfl
theorem FactsAt.free {H : Hp} {kvs : List (Key × V)} {us : List (Str × UF)} (h : FactsAt H kvs us) {w : Str} (hw : w ∉ us.map (·.1)) : valV kvs (Sum.inr w : Key) = none := by
  induction h with
  | nil => rfl
  | @snoc kvs us w' v u h e ih =>
    rw [List.map_append] at hw
    have h1 : w ∉ us.map (·.1) := fun z => hw (List.mem_append_left _ z)
    have h2 : w ≠ w' := fun z => hw (List.mem_append_right _ (List.mem_singleton.mpr z))
    have q1 := ih h1
    have hv : ∀ kvs : List (Key × V), valV kvs (Sum.inr w : Key) = none → valV (kvs ++ [((Sum.inr w' : Key), v)]) (Sum.inr w : Key) = none := by
      intro kvs
      induction kvs with
      | nil => exact fun _ => valV_neg (fun z => h2 (by cases z; rfl))
      | cons p r ih =>
        intro hn
        by_cases hp : p.1 = (Sum.inr w : Key)
        · rw [valV_pos hp] at hn
          cases hn
        · rw [valV_neg hp] at hn
          rw [List.cons_append, valV_neg hp]
          exact ih hn
    exact hv kvs q1
theorem FactsAt.get {H : Hp} {kvs : List (Key × V)} {us : List (Str × UF)} (h : FactsAt H kvs us) (hn : (us.map (·.1)).Nodup) : ∀ p ∈ us, ∃ v, valV kvs (Sum.inr p.1 : Key) = some v ∧ FactAt H v p.2 := by
  induction h with
  | nil => intro p hp; cases hp
  | @snoc kvs us w v u h e ih =>
    intro p hp
    rw [List.map_append] at hn
    obtain ⟨n1, _, n3⟩ := List.nodup_append.mp hn
    have hw : w ∉ us.map (·.1) := fun z => n3 w z w (List.mem_singleton.mpr rfl) rfl
    have hf := h.free hw
    rw [valV_snoc _ _ _ _ hf]
    rcases List.mem_append.mp hp with hp1 | hp
    · obtain ⟨v', hv', ha⟩ := ih n1 p hp1
      have hne : ¬ (Sum.inr p.1 : Key) = Sum.inr w := fun z => hw (by cases z; exact List.mem_map.mpr ⟨p, hp1, rfl⟩)
      exact ⟨v', by rw [if_neg hne]; exact hv', ha⟩
    · have e' := List.mem_singleton.mp hp
      subst e'
      exact ⟨v, by rw [if_pos rfl], e⟩
/-- what a drawn unit is -/
structure UOk (ns ss : List Str) (w : Str) (u : UF) : Prop where
  kd : u.kind = Str.ofString "work" ∨ u.kind = Str.ofString "goal" ∨ u.kind = Str.ofString "door"
  nN : u.needs.Nodup
  nW : u.wants.Nodup
  nB : u.bars.Nodup
  nA : u.after.Nodup
  lN : u.needs.length ≤ 8
  lW : u.wants.length ≤ 8
  lB : u.bars.length ≤ 8
  lA : u.after.length ≤ 8
  mem : ∀ x ∈ u.named, (x ∈ ns ∨ x ∈ ss) ∧ x ≠ w
  op1 : u.kind = Str.ofString "door" → u.opens ≠ none
  op2 : u.kind ≠ Str.ofString "door" → u.opens = none
end UW

namespace UW
open PySem L2
theorem cutV_bit (ss : List Str) (b : Bool) : ∃ m : Nat, cutV (ss.map V.str) none (some (if b = true then 1 else 0)) = (ss.take m).map V.str := by
  cases b
  · exact ⟨0, by rw [List.map_take]; exact cutV_to (n := 0)⟩
  · exact ⟨1, by rw [List.map_take]; exact cutV_to (n := 1)⟩
theorem cutV_strs (ss : List Str) (n : Nat) : cutV (ss.map V.str) none (some (n : Int)) = (ss.take n).map V.str := by
  rw [List.map_take]
  exact cutV_to
def rcands (x : Str) : List Str := (List.range 26).map fun i => (⟨#[122 - i]⟩ : Str) ++ x
theorem rcands_nodup (x : Str) : (rcands x).Nodup := by
  unfold rcands
  rw [List.nodup_iff_pairwise_ne, List.pairwise_map]
  refine List.Pairwise.imp_of_mem ?_ List.pairwise_lt_range
  intro a b ha hb hab e
  have ha := List.mem_range.mp ha
  have hb := List.mem_range.mp hb
  have h := congrArg (fun z : Str => z.cps.toList) e
  simp only [sign_app_tl] at h
  injection h with h _
  omega
theorem rcand_nm {i : Nat} (hi : i < 26) : Nm ((⟨#[122 - i]⟩ : Str) ++ Str.ofString "zz") := by
  have e : ((⟨#[122 - i]⟩ : Str) ++ Str.ofString "zz").cps.toList = (122 - i) :: [122, 122] := by
    rw [sign_app_tl]
    have : (Str.ofString "zz").cps.toList = [122, 122] := by decide +kernel
    rw [this]
  refine ⟨fun c hc => ?_, ?_, ?_⟩
  · rw [e] at hc
    rcases List.mem_cons.mp hc with rfl | hc
    · omega
    · rcases List.mem_cons.mp hc with rfl | hc
      · omega
      · rw [List.mem_singleton.mp hc]
        omega
  · rw [len_tl', e]
    exact Nat.zero_lt_succ _
  · rw [len_tl', e]
    show 3 ≤ 8
    omega
theorem filter_free {α : Type} [DecidableEq α] {cs ds : List α} (hn : cs.Nodup) (h : ds.length < cs.length) : 0 < (cs.filter fun x => decide (x ∉ ds)).length := by
  obtain ⟨c, hc, hd⟩ := free_in hn h
  exact List.length_pos_of_mem (List.mem_filter.mpr ⟨hc, decide_eq_true hd⟩)
theorem take_filter_snoc {α : Type} (f : α → Bool) {xs : List α} {i : Nat} {x : α} (h : xs[i]? = some x) : (xs.take (i + 1)).filter f = (xs.take i).filter f ++ (if f x = true then [x] else []) := by
  rw [List.take_add_one, h, List.filter_append]
  show _ ++ List.filter f [x] = _
  cases hf : f x
  · rw [List.filter_cons_of_neg (by rw [hf]; exact Bool.false_ne_true), if_neg Bool.false_ne_true]
    rfl
  · rw [List.filter_cons_of_pos hf, if_pos rfl]
    rfl
theorem map_str_get {xs : List Str} {i : Nat} {x : V} (h : (xs.map V.str)[i]? = some x) : ∃ w, xs[i]? = some w ∧ x = .str w := by
  rw [List.getElem?_map] at h
  cases hx : xs[i]? with
  | none => rw [hx] at h; cases h
  | some w => rw [hx] at h; exact ⟨w, rfl, by injection h with h; exact h.symm⟩
end UW

namespace UW
open PySem L2
/-- [z1, ..][take(bag, k)], the menu just laid at l -/
theorem pick_menu {K : PySem.W.Frag} {H : Hp} {p l : Addr} {n : Nat} (zs : List V) {k : Int} {Q : VK} {E' : XK} (B : Bag n H p) (hn : n < 900000000) (hl : H l = none) (hk : k = (zs.length : Int)) (hz0 : 0 < zs.length) (hz1 : zs.length < 1000)
    (q : ∀ (z : V) H', z ∈ zs → Bag (n + 1) H' p → Kp p H H' → Q z H') :
    spTake [.ref p, .int k] (upd H l (.lst zs)) (fun v H2 => rIxL K (.ref l) v H2 Q) E' := by
  subst hk
  generalize hE : upd H l _ = H1
  have k1 := new_at hE
  have s1 := new_same hE hl
  have npl := B.ne hl
  refine take_of (B.same s1) (by omega) (by omega) (by omega) fun r H2 r0 r1 B2 kp2 => ?_
  obtain ⟨j, rfl⟩ := Int.eq_ofNat_of_zero_le r0
  have hj : j < zs.length := by omega
  refine ⟨l, _, _, zs[j], rfl, rfl, SqL.of (kp2 _ _ k1 npl.symm), atI_nat (List.getElem?_eq_getElem hj), ?_⟩
  exact q _ H2 (List.getElem_mem hj) B2 ((Kp.of s1).trans kp2)
theorem mix_ok {ns ss zs : List Str} {w : Str} (hn : ns.Nodup) (hs : ss.Nodup) (hm : ∀ x ∈ ns, Nm x) (ht : ∀ x ∈ ss, Nm x ∧ x ∉ ns) (h1 : ns.length ≤ 20) (h2 : ss.length ≤ 2) (hw : w ∈ ns) (hz : zs.Sublist ss) :
    ((ns.filter fun x => decide (x ≠ w)) ++ zs).Nodup ∧ ((ns.filter fun x => decide (x ≠ w)) ++ zs).length ≤ 100 ∧ (∀ x ∈ (ns.filter fun x => decide (x ≠ w)) ++ zs, Nm x) ∧ ∀ x ∈ (ns.filter fun x => decide (x ≠ w)) ++ zs, (x ∈ ns ∨ x ∈ ss) ∧ x ≠ w := by
  have key : ∀ x ∈ (ns.filter fun x => decide (x ≠ w)) ++ zs, Nm x ∧ (x ∈ ns ∨ x ∈ ss) ∧ x ≠ w := fun x hx => by
    rcases List.mem_append.mp hx with hx | hx
    · obtain ⟨a, b⟩ := List.mem_filter.mp hx
      exact ⟨hm x a, .inl a, of_decide_eq_true b⟩
    · have hx' := hz.subset hx
      exact ⟨(ht x hx').1, .inr hx', fun e => (ht x hx').2 (e ▸ hw)⟩
  refine ⟨List.nodup_append.mpr ⟨List.Nodup.sublist List.filter_sublist hn, List.Nodup.sublist hz hs, fun a ha b hb e => ?_⟩, ?_, fun x hx => (key x hx).1, fun x hx => (key x hx).2⟩
  · exact (ht b (hz.subset hb)).2 (e ▸ (List.mem_filter.mp ha).1)
  · rw [List.length_append]
    have := hz.length_le
    have := List.length_filter_le (fun x => decide (x ≠ w)) ns
    omega
end UW

namespace UW
open PySem L2
theorem tup_same {K : PySem.W.Frag} {H H' : Hp} {a : Addr} {xs : List V} (e : Same H H') (h : SqT K H a xs) : SqT K H' a xs := SqT.ext h e
/-- what isn't a tuple, nor a frozen one -/
def NotTp (H : Hp) (q : Addr) : Prop := ∀ xs, H q ≠ some (.tup xs) ∧ ∀ o, H q ≠ some (.frz o (.tup xs))
theorem NotTp.lst {H : Hp} {q : Addr} {xs : List V} (h : H q = some (.lst xs)) : NotTp H q := fun ys => ⟨(fun e => by rw [h] at e; cases e), (fun o e => by rw [h] at e; cases e)⟩
theorem NotTp.dK {H : Hp} {q : Addr} {xs : List (Key × V)} (h : H q = some (.dK xs)) : NotTp H q := fun ys => ⟨(fun e => by rw [h] at e; cases e), (fun o e => by rw [h] at e; cases e)⟩
theorem NotTp.ins {H : Hp} {q C dx : Addr} {fs : List (Str × V)} (h : H q = some (.ins C dx fs)) : NotTp H q := fun ys => ⟨(fun e => by rw [h] at e; cases e), (fun o e => by rw [h] at e; cases e)⟩
theorem Bag.notTp {n : Nat} {H : Hp} {p : Addr} (b : Bag n H p) : NotTp H p := by
  obtain ⟨_, _, _, h, _⟩ := b.ex
  exact .lst h
theorem Kp.tup {K : PySem.W.Frag} {H H' : Hp} {q a : Addr} {xs : List V} (k : Kp q H H') (n : NotTp H q) (h : SqT K H a xs) : SqT K H' a xs := by
  rcases h with (h | ⟨o, h⟩) | h
  · exact .inl (.inl (k _ _ h fun e => (n xs).1 (e ▸ h)))
  · exact .inl (.inr ⟨o, k _ _ h fun e => (n xs).2 o (e ▸ h)⟩)
  · exact .inr h
end UW

namespace UW
open PySem L2
theorem shaped_strsT {xs : List Str} (h : ∀ x ∈ xs, PyData.strOk x = true) : SeqAt.shaped (.tuple (xs.map PyData.str)) = true := by
  have := shaped_strs h
  unfold SeqAt.shaped at *
  simp only [PyData.canLay0, PyData.depth] at *
  exact this
theorem eqD_strsT {K : PySem.W.Frag} {H : Hp} {a b : Addr} {xs ys : List Str} {Q : VK} (h1 : SqT K H a (xs.map V.str)) (h2 : SqT K H b (ys.map V.str)) (hx : ∀ x ∈ xs, PyData.strOk x = true) (hy : ∀ y ∈ ys, PyData.strOk y = true) (q : Q (.bl (decide (xs = ys))) H) : rEqD K (.ref a) (.ref b) H Q := by
  refine ⟨_, _, .tup h1 (dpAll_strs xs), .tup h2 (dpAll_strs ys), shaped_strsT hx, shaped_strsT hy, ?_⟩
  have e : PyData.eqv (.tuple (xs.map PyData.str)) (.tuple (ys.map PyData.str)) = decide (xs = ys) := by
    simp only [PyData.eqv]
    exact eqvAll_strs xs ys
  rw [e]
  exact q
theorem dec_str {x y : Str} : decide (V.str x = V.str y) = decide (x = y) := decide_eq_decide.mpr ⟨fun e => by cases e; rfl, fun e => by rw [e]⟩
theorem dec_optV {x y : Option Str} : decide (optV x = optV y) = decide (x = y) := decide_eq_decide.mpr ⟨fun e => by
  cases x with
  | none => cases y with
    | none => rfl
    | some y => cases e
  | some x => cases y with
    | none => cases e
    | some y => cases e; rfl, fun e => by rw [e]⟩
theorem scal_optV (x y : Option Str) : scal (optV x) (optV y) = true := by
  cases x <;> cases y <;> rfl
end UW

namespace UW
open PySem L2
theorem neF {x : V} {A B : Prop} (h : B) : if (!decide (x = x)) = true then A else B := by
  rw [decide_eq_true rfl]
  exact iteF h
theorem eqv_strsT (xs : List Str) : PyData.eqv (.tuple (xs.map PyData.str)) (.tuple (xs.map PyData.str)) = true := by
  simp only [PyData.eqv]
  rw [eqvAll_strs]
  exact decide_eq_true rfl
theorem neD_quad {K : PySem.W.Frag} {H : Hp} {l l' a1 a2 a3 a4 b1 b2 b3 b4 : Addr} {x1 x2 x3 x4 : List Str} {Q : VK} (hl : SqL K H l [.ref a1, .ref a2, .ref a3, .ref a4]) (hl' : SqL K H l' [.ref b1, .ref b2, .ref b3, .ref b4])
    (h1 : SqT K H a1 (x1.map V.str)) (h2 : SqT K H a2 (x2.map V.str)) (h3 : SqT K H a3 (x3.map V.str)) (h4 : SqT K H a4 (x4.map V.str)) (g1 : SqT K H b1 (x1.map V.str)) (g2 : SqT K H b2 (x2.map V.str)) (g3 : SqT K H b3 (x3.map V.str)) (g4 : SqT K H b4 (x4.map V.str))
    (k1 : ∀ x ∈ x1, PyData.strOk x = true) (k2 : ∀ x ∈ x2, PyData.strOk x = true) (k3 : ∀ x ∈ x3, PyData.strOk x = true) (k4 : ∀ x ∈ x4, PyData.strOk x = true) (q : Q (.bl false) H) : rNeD K (.ref l) (.ref l') H Q := by
  have sh : SeqAt.shaped (.list [.tuple (x1.map PyData.str), .tuple (x2.map PyData.str), .tuple (x3.map PyData.str), .tuple (x4.map PyData.str)]) = true := by
    refine Bool.and_eq_true_iff.mpr ⟨?_, decide_eq_true ?_⟩
    · simp only [PyData.canLay0, PyData.canLayAll0]
      rw [(layAll_strs k1).1, (layAll_strs k2).1, (layAll_strs k3).1, (layAll_strs k4).1]
      rfl
    · simp only [PyData.depth, PyData.depthAll]
      rw [(layAll_strs k1).2, (layAll_strs k2).2, (layAll_strs k3).2, (layAll_strs k4).2]
      decide
  refine ⟨_, _, .lst hl (.cons (.tup h1 (dpAll_strs x1)) (.cons (.tup h2 (dpAll_strs x2)) (.cons (.tup h3 (dpAll_strs x3)) (.cons (.tup h4 (dpAll_strs x4)) .nil)))), .lst hl' (.cons (.tup g1 (dpAll_strs x1)) (.cons (.tup g2 (dpAll_strs x2)) (.cons (.tup g3 (dpAll_strs x3)) (.cons (.tup g4 (dpAll_strs x4)) .nil)))), sh, sh, ?_⟩
  have e : PyData.eqv (.list [.tuple (x1.map PyData.str), .tuple (x2.map PyData.str), .tuple (x3.map PyData.str), .tuple (x4.map PyData.str)]) (.list [.tuple (x1.map PyData.str), .tuple (x2.map PyData.str), .tuple (x3.map PyData.str), .tuple (x4.map PyData.str)]) = true := by
    rw [show ∀ xs ys, PyData.eqv (.list xs) (.list ys) = PyData.eqvAll xs ys from fun xs ys => by simp only [PyData.eqv]]
    simp only [PyData.eqvAll]
    rw [eqv_strsT, eqv_strsT, eqv_strsT, eqv_strsT]
    rfl
  rw [e]
  exact q
end UW
namespace UW
open PySem PySem.Spec PyProof.Rows L2
section
variable {prog : Program} {w : World} {A : Around} {E : Value → Shared → Prop} {s : Shared}
theorem adjust_back (n : Nat) : Builtin.Slice.sliceAdjust none none (-1) (n : Int) = ((n : Int) - 1, -1) := rfl
theorem places_back (n : Nat) : Builtin.Slice.slicePlaces ((n : Int) - 1) (-1) (-1) = n := by
  unfold Builtin.Slice.slicePlaces
  rw [if_neg (by decide), show (- -1 : Int) = 1 by decide, Int.ediv_one]
  split <;> omega
theorem applied_back {sl : Addr} {vs : Value} {n : Nat} {Q : Int × Int × Nat → Shared → Prop} (hs : s.heap.IsSliceOf sl .none .none vs) (ps : IsPart vs (some (-1))) (h : Q ((n : Int) - 1, -1, n) s) :
    wpAny (model prog w) A (Builtin.Slice.sliceApplied (.ref sl) (pure (n : Int))) Q E s := by
  obtain ⟨os, hos, _, hds⟩ := id hs
  unfold Builtin.Slice.sliceApplied Builtin.Slice.sliceFields
  refine wpAny_bind (wpAny_bind (wpAny_field hos hds (x := .none) rfl (wpAny_bind (wpAny_field hos hds (x := .none) rfl (wpAny_bind (wpAny_field hos hds (x := vs) rfl (wpAny_pure ?_)))))))
  refine wpAny_bind (HT.slicePart_ ps ?_)
  show wpAny _ _ (if ((-1 : Int) == 0) = true then _ else _) _ _ s
  rw [if_neg (by decide)]
  refine wpAny_bind (slicePart_none (wpAny_bind (slicePart_none (wpAny_bind (wpAny_pure ?_)))))
  show wpAny _ _ (pure ((n : Int) - 1, (-1 : Int), Builtin.Slice.slicePlaces ((n : Int) - 1) (-1) (-1))) _ _ s
  rw [places_back]
  exact wpAny_pure h
theorem fm_congr {α β : Type} {f g : α → Option β} : ∀ {l : List α}, (∀ x ∈ l, f x = g x) → l.filterMap f = l.filterMap g
  | [], _ => rfl
  | x :: l, h => by rw [List.filterMap_cons, List.filterMap_cons, h x (List.mem_cons_self ..), fm_congr fun y hy => h y (List.mem_cons_of_mem _ hy)]
theorem pick_back (xs : Array Value) : ((List.range xs.size).filterMap fun (m : Nat) => xs[((xs.size : Int) - 1 + (m : Int) * (-1)).toNat]?).toArray = xs.toList.reverse.toArray := by
  have e : (List.range xs.size).filterMap (fun (m : Nat) => xs[((xs.size : Int) - 1 + (m : Int) * (-1)).toNat]?) = ((List.range xs.size).map fun k => xs.size - 1 - k).filterMap (xs[·]?) := by
    rw [List.filterMap_map]
    refine fm_congr fun m hm => ?_
    have : ((xs.size : Int) - 1 + (m : Int) * (-1)).toNat = xs.size - 1 - m := by
      have := List.mem_range.mp hm
      omega
    show xs[_]? = xs[_]?
    rw [this]
  rw [e, PySem.W.krv_range, List.filterMap_reverse, PySem.W.krv_all]
theorem getItem_back {t sl : Addr} {items : Array Value} {vs : Value} {Q : Value → Shared → Prop} (ht : IsTup s.heap t items) (hs : s.heap.IsSliceOf sl .none .none vs) (ps : IsPart vs (some (-1)))
    (h : Q (.ref s.heap.objs.size) { s with heap := s.heap.push { cls := .type "tuple", data := .seq items.toList.reverse.toArray } }) (hsz : items.size ≤ sizeLine) : wpAny (model prog w) A (getItem (.ref t) (.ref sl)) Q E s := by
  have hok : sizeOk (.seq items.toList.reverse.toArray) := by
    show items.toList.reverse.toArray.size ≤ sizeLine
    rw [List.size_toArray, List.length_reverse, Array.length_toList]
    exact hsz
  have hTs : s.TypeIs (.ref sl) "slice" := by
    obtain ⟨os, hos, hcs, _⟩ := id hs
    exact ⟨os, hos, hcs⟩
  unfold getItem
  try with_reducible refine wpAny_holding ?_
  first | refine wpAny_bind (wpAny_pure ?_) | skip
  refine wpAny_bind (wpAny_sequenceKey ht.typeIs (by decide) ?_)
  refine wpAny_bind (wpAny_callSpecial?_slot (name := Str.ofString "__getitem__") ht.typeIs PyProof.Rows.slot_tuple_getitem
    (wpAny_call_entry PyProof.Rows.slot_tuple_getitem ht.typeIs entry_tuple_getitem ?_ (args_tuple_getitem _ _)))
  show wpAny _ _ (Builtin.Tuple.tupleItemsOf (.ref t) >>= _) _ _ s
  refine wpAny_bind (tupleItemsOf_ ht (wpAny_bind (wpAny_typeOf hTs ?_)))
  rw [if_pos (by decide)]
  refine wpAny_bind (applied_back hs ps ?_)
  show wpAny _ _ (if (((items.size : Int) - 1) == 0 && (-1 : Int) == 1 && items.size == items.size) = true then _ else _) _ _ s
  rw [if_neg (by rw [show ((-1 : Int) == 1) = false from rfl, Bool.and_false, Bool.false_and]; exact Bool.false_ne_true), pick_back]
  exact wpAny_bind (m := Builtin.Tuple.tupleExact _) (wpAny_newObj_type (wpAny_pure ⟨_, rfl, wpAny_pure h⟩) hok)
end
section
variable {X : Cx}
def tRevT (K : PySem.W.Frag) (te : TE) : TE := fun σ H Q => te σ H fun x H1 => ∃ a xs, x = .ref a ∧ SqT K H1 a xs ∧ ∀ p, H1 p = none → Q (.ref p) (upd H1 p (.tup xs.reverse))
theorem pe_revT {e : Expr} {te : TE} {k : Nat} {p1 p2 p3 pos : Pos} (he : PE X e te) : PE X (.Subscript e (.Slice none none (some (.UnaryOp .USub (.Constant (.int 1) k p1) p2)) p3) pos) (tRevT X.K te) := by
  refine ⟨fun pins s σ H Q I h => Subscript_ (thn (he.run pins s σ H _ I h) fun v s1 ⟨x, H1, I1, r1, q1⟩ => ?_)⟩
  obtain ⟨a, xs, ex, hx, q⟩ := q1
  subst ex
  cases r1
  have hst : PO X (some (.UnaryOp .USub (.Constant (.int 1) k p1) p2)) (tPart (tUn (rU fun i => .int (-i)) (tC (.int 1)))) := po_some (pe_un un_neg pe_int)
  refine wpAny_Slice (thn (po_none.run pins s1 σ H1 (fun o H2 => o = none ∧ H2 = H1) I1 ⟨rfl, rfl⟩) fun vl s2 ⟨l, H2, I2, pl, el, e2⟩ => ?_)
  subst el e2
  refine thn (po_none.run pins s2 σ H2 (fun o H3 => o = none ∧ H3 = H2) I2 ⟨rfl, rfl⟩) fun vu s3 ⟨u, H3, I3, pu, eu, e3⟩ => ?_
  subst eu e3
  refine thn (hst.run pins s3 σ H3 (fun o H4 => o = some (-1) ∧ H4 = H3) I3 ⟨1, rfl, -1, rfl, rfl, rfl⟩) fun vs s4 ⟨o, H4, I4, ps, eo, e4⟩ => ?_
  subst eo e4
  cases pl
  cases pu
  have I5 : Inv X pins σ H4 { s4 with heap := s4.heap.push { cls := .type "slice", data := .fields #[.none, .none, vs] } } := I4.kept (t' := s4.toks) fun b ob q => Heap.get?_push_of_some _ q
  obtain ⟨its, r, ht, hz⟩ := I5.tuple hx
  have hlen := r.length
  show wpAny (model X.prog X.w) X.A (subscriptTail e (.Slice none none (some (.UnaryOp .USub (.Constant (.int 1) k p1) p2)) p3) (.ref a) (.ref s4.heap.objs.size)) (EP X pins σ Q) X.xe { s4 with heap := s4.heap.push { cls := .type "slice", data := .fields #[.none, .none, vs] } }
  refine tail_any (ops := [.ref a, .ref s4.heap.objs.size]) ht.typeIs (PyProof.Rows.slot_tuple_getitem.lookup) ?_ (by with_unfolding_all rfl)
  refine getItem_back ht (Heap.IsSliceOf.new _ .none .none vs) ps ?_ (by rw [List.size_toArray]; omega)
  refine ⟨.ref _, _, I5.laid (t' := s4.toks) (o := .tup xs.reverse) (fun b ob q => Heap.get?_push_of_some _ q) (Nat.le_refl _) ?_, rfl, q _ (I5.hok.fresh (Nat.le_refl _))⟩
  exact ⟨by rw [List.length_reverse]; exact hz, _, r.reverse, IsTup.new _ _⟩
end
end UW

namespace UW
open PySem L2
theorem inV_mem (y : Str) (us : List V) : inV (.str y) us = true ↔ V.str y ∈ us := by
  unfold inV
  rw [List.any_eq_true]
  refine ⟨fun ⟨v, hv, e⟩ => ?_, fun h => ⟨_, h, by simp [eqV]⟩⟩
  have : v = .str y := by
    cases v <;> simp [eqV] at e
    rw [e]
  exact this ▸ hv
/-- the candidates that aren't among the given things -/
def frees (x : Str) (us : List V) : List Str := (cands x).filter fun y => !inV (.str y) us
theorem frees_ok {x : Str} {us : List V} {ds : List Str} (h : ∀ y, V.str y ∈ us → y ∈ ds) (hl : ds.length < 26) : ∃ z zs, frees x us = z :: zs ∧ V.str z ∉ us ∧ z ∈ cands x := by
  obtain ⟨c, hc, hd⟩ := free_in (cands_nodup x) (ds := ds) (by unfold cands; rw [List.length_map, List.length_range]; exact hl)
  have hm : c ∈ frees x us := List.mem_filter.mpr ⟨hc, by
    cases he : inV (.str c) us
    · rfl
    · exact absurd (h c ((inV_mem c us).mp he)) hd⟩
  cases hf : frees x us with
  | nil => rw [hf] at hm; cases hm
  | cons z zs =>
    have hz : z ∈ frees x us := by rw [hf]; exact List.mem_cons_self ..
    obtain ⟨h1, h2⟩ := List.mem_filter.mp hz
    refine ⟨z, zs, rfl, fun e => ?_, h1⟩
    rw [(inV_mem z us).mpr e] at h2
    exact Bool.false_ne_true h2
theorem cand_len {x z : Str} (h : z ∈ cands x) : z.length = 1 + x.length := by
  obtain ⟨i, _, rfl⟩ := List.mem_map.mp h
  rw [len_tl', sign_app_tl, List.length_cons, ← len_tl']
  omega
end UW
/-! own layer: objects with their own ==, !=, in, str, repr -/
namespace UO
open PySem PySem.Spec PyProof.Rows L2

section
variable {X : Cx} {CX : CXT} {n : Nat} {f C : Addr} {fd : FuncData} {ps : List Str} {sp : Sp} {E : XK}
/-- a def called from within a builtin -/
theorem call_sub (F : FnOk X.prog X.w X.K X.mg X.base CX n f fd ps sp) (hb : Binds X.K fd ps []) (hx : Passes CX X E) {A : Around} (sb : Sub X n A) {pins : List (Addr × Obj)} {σ : L2.St} {H : Hp} {s : Shared} (I : L2.Inv X pins σ H s)
    {vs : List V} {us : List Value} (r : Vals vs us) {Q : VK} (h : sp vs H Q E) : wpAny (model X.prog X.w) A (call (.ref f) us) (EP X pins σ Q) X.xe s := by
  have e0 : Env0 X.prog X.w X.K X.mg X.base A X.stack s H := by
    have e := I.env0
    exact ⟨by rw [sb.fr]; exact e.frames, e.mod, e.bs, e.bsz, e.funs, e.frf, e.hok, e.bare⟩
  have hl := F.len _ _ _ _ h
  refine wpAny_call (codeAny_mono (F.run A X.stack s H ⟨us, []⟩ us vs _ E sb.room e0 (by
    have := hb s us I.kIn (by rw [List.append_nil, ← r.length]; exact hl)
    rw [List.append_nil] at this
    exact this) r h) fun r s' hq => ?_)
  cases r with
  | error e => exact hx pins σ H s e s' I hq
  | ok fl =>
    cases fl with
    | ret w => exact I.after hq
    | next => exact False.elim hq
    | brk => exact False.elim hq
    | cont => exact False.elim hq

/-- == of two values, by what is asked of them: a truth, and the heap behind it -/
def RcO (X : Cx) (n : Nat) (r : R2) : Prop :=
  ∀ (A : Around) (pins : List (Addr × Obj)) (s : Shared) (σ : L2.St) (H : Hp) (x y : V) (u v : Value) (Q : VK), Sub X n A → L2.Inv X pins σ H s → RelV x u → RelV y v → r x y H Q →
    wpAny (model X.prog X.w) A (richCompare .Eq u v) (fun t s' => ∃ b H', t = .bool b ∧ L2.Inv X pins σ H' s' ∧ Q (.bl b) H') X.xe s
def EqO (X : Cx) (n : Nat) (r : R2) : Prop :=
  ∀ (A : Around) (pins : List (Addr × Obj)) (s : Shared) (σ : L2.St) (H : Hp) (x y : V) (u v : Value) (Q : VK), Sub X n A → L2.Inv X pins σ H s → RelV x u → RelV y v → r x y H Q →
    wpAny (model X.prog X.w) A (eqBool u v) (fun b s' => ∃ H', L2.Inv X pins σ H' s' ∧ Q (.bl b) H') X.xe s
theorem op_rc {r : R2} (h : RcO X n r) (hr : Room n X.A) : OpR X (compareOp .Eq) r := by
  intro pins s σ H x y v u Q I rx ry hq
  show wpAny (model X.prog X.w) X.A (richCompare .Eq v u) (EP X pins σ Q) X.xe s
  refine wpAny_mono (h X.A pins s σ H x y v u Q ⟨hr, rfl⟩ I rx ry hq) (fun t s' z => ?_) fun _ _ x => x
  obtain ⟨b, H', rfl, I', q⟩ := z
  exact ⟨.bl b, H', I', rfl, q⟩
/-- two values that are not one object -/
def apart : V → V → Prop
  | .ref a, .ref b => a ≠ b
  | .ref _, .flt _ => False
  | .flt _, _ => False
  | .ref _, _ => True
  | _, .ref _ => True
  | _, _ => False
theorem eqBool_apart {prog : Program} {w : World} {A : Around} {E : Value → Shared → Prop} {s : Shared} {u v : Value} {x y : V} {Q : Bool → Shared → Prop} (ha : apart x y) (rx : RelV x u) (ry : RelV y v)
    (h : wpAny (model prog w) A (richCompare .Eq u v) (fun t s' => ∃ b, t = .bool b ∧ Q b s') E s) : wpAny (model prog w) A (eqBool u v) Q E s := by
  have fin : ∀ (u v : Value), (u == v) = false → (wpAny (model prog w) A (eqBool u v) Q E s = wpAny (model prog w) A (holding [u, v] (if (u == v) = true then (do rule "eq-bool.same-object"; return true) else (do truthOfDropped (← richCompare .Eq u v)))) Q E s) →
      wpAny (model prog w) A (richCompare .Eq u v) (fun t s' => ∃ b, t = .bool b ∧ Q b s') E s → wpAny (model prog w) A (eqBool u v) Q E s := fun u v k e h => by
    rw [e]
    refine wpAny_holding ?_
    rw [k]
    show wpAny _ _ (do truthOfDropped (← richCompare .Eq u v)) _ _ _
    refine wpAny_bind (wpAny_mono h (fun t s' z => ?_) fun _ _ x => x)
    obtain ⟨b, rfl, q⟩ := z
    exact wpAny_truthy_bool q
  cases x with
  | ref a =>
    cases (show u = Value.ref a from rx)
    cases y with
    | ref b =>
      cases (show v = Value.ref b from ry)
      refine fin _ _ ?_ rfl h
      cases q : (Value.ref a == Value.ref b) with
      | false => rfl
      | true => exact absurd (by have := eq_of_beq q; injection this) ha
    | non => cases (show v = Value.none from ry); exact fin _ _ rfl rfl h
    | bl b => cases (show v = Value.bool b from ry); exact fin _ _ rfl rfl h
    | int i => obtain ⟨t, rfl⟩ := (show ∃ t, v = Value.int i t from ry); exact fin _ _ rfl rfl h
    | str z => obtain ⟨t, rfl⟩ := (show ∃ t, v = Value.str z t from ry); exact fin _ _ rfl rfl h
    | byt z => obtain ⟨t, rfl⟩ := (show ∃ t, v = Value.bytes z t from ry); exact fin _ _ rfl rfl h
    | flt z => exact False.elim ha
    | ty z => cases (show v = Value.type z from ry); exact fin _ _ rfl rfl h
  | _ =>
    cases y with
    | ref b =>
      cases (show v = Value.ref b from ry)
      first
        | exact False.elim ha
        | (cases (show u = Value.none from rx); exact fin _ _ rfl rfl h)
        | (cases (show u = Value.bool _ from rx); exact fin _ _ rfl rfl h)
        | (obtain ⟨t, rfl⟩ := (show ∃ t, u = Value.int _ t from rx); exact fin _ _ rfl rfl h)
        | (obtain ⟨t, rfl⟩ := (show ∃ t, u = Value.str _ t from rx); exact fin _ _ rfl rfl h)
        | (obtain ⟨t, rfl⟩ := (show ∃ t, u = Value.bytes _ t from rx); exact fin _ _ rfl rfl h)
        | (cases (show u = Value.type _ from rx); exact fin _ _ rfl rfl h)
    | _ => exact False.elim ha
theorem RcO.eqO {r : R2} (h : RcO X n r) (ha : ∀ x y H Q, r x y H Q → apart x y) : EqO X n r := by
  intro A pins s σ H x y u v Q sb I rx ry hq
  refine eqBool_apart (ha x y H Q hq) rx ry (wpAny_mono (h A pins s σ H x y u v Q sb I rx ry hq) (fun t s' z => ?_) fun _ _ x => x)
  obtain ⟨b, H', rfl, I', q⟩ := z
  exact ⟨b, rfl, H', I', q⟩

def rAp (r : R2) : R2 := fun x y H Q => apart x y ∧ r x y H Q
theorem RcO.ap {r : R2} (h : RcO X n r) : EqO X n (rAp r) := RcO.eqO (r := rAp r) (fun A pins s σ H x y u v Q sb I rx ry hq => h A pins s σ H x y u v Q sb I rx ry hq.2) fun x y H Q hq => hq.1

/-! ### an instance on the left -/
def rEqO (K : PySem.W.Frag) (C : Addr) (sp : Sp) (E : XK) : R2 := fun x y H Q => ∃ a dx fs t, x = .ref a ∧ H a = some (.ins C dx fs) ∧ TyX K H y t ∧ PySem.W.notFirst K C t = true ∧ sp [x, y] H (fun v H' => ∃ b, v = .bl b ∧ Q (.bl b) H') E
theorem rc_left (F : FnOk X.prog X.w X.K X.mg X.base CX n f fd ps sp) (hs : PySem.W.findIn X.K (.ref C) "__eq__" = some (some (.ref f))) (hf : PySem.W.isFn X.K (.ref f) = true) (hb : Binds X.K fd ps []) (hx : Passes CX X E) : RcO X n (rEqO X.K C sp E) := by
  intro A pins s σ H x y u v Q sb I rx ry hq
  obtain ⟨a, dx, fs, t, rfl, ha, ty, hn, q⟩ := hq
  cases rx
  obtain ⟨mA, J, _⟩ := ins_get I.hok ha
  obtain ⟨od, J, _⟩ := J.look
  obtain ⟨m, hF⟩ := I.fr
  obtain ⟨P, Z, p, _⟩ := kit_of I ry ty
  refine PySem.W.cmp_K (op := .Eq) (tb := t) sb.room.units0 hF I.ok.mod.kin J (Z.ty _ _ I.kIn p) hn hs hf ?_
  have r2 : Vals [V.ref a, y] [Value.ref a, v] := .cons rfl (.cons ry .nil)
  refine wpAny_mono (call_sub F hb hx sb I r2 q) (fun r s' z => ?_) fun _ _ x => x
  obtain ⟨z, H', I', rz, b, rfl, q'⟩ := z
  cases (show r = Value.bool b from rz)
  exact ⟨b, H', rfl, I', q'⟩
end

/-! ### built-in values that decline to be compared with an instance -/
section
open AutoSeq1 (wpAny_loadPart')
open MeetsSeq
theorem int_declines (b : Int) (u : Tok) (l C dx : Addr) : Meets (Builtin.«int.__eq__» ⟨[.int b u, .ref l], []⟩) (fun _ R s => s.heap.get? l = some (PySem.W.instObj C dx) ∧ R (.ok (.ret .notImplemented)) s) :=
  .of_wp fun prog w A R s h => by obtain ⟨hp, g, d, tk, os⟩ := s; obtain ⟨hl, h⟩ := h; unfold PySem.W.instObj at hl; wp_walk using wpAny_loadPart' hl, wpAny_load hl; exact ⟨_, rfl, h⟩
theorem bool_declines (b : Bool) (l C dx : Addr) : Meets (Builtin.«int.__eq__» ⟨[.bool b, .ref l], []⟩) (fun _ R s => s.heap.get? l = some (PySem.W.instObj C dx) ∧ R (.ok (.ret .notImplemented)) s) :=
  .of_wp fun prog w A R s h => by obtain ⟨hp, g, d, tk, os⟩ := s; obtain ⟨hl, h⟩ := h; unfold PySem.W.instObj at hl; wp_walk using wpAny_loadPart' hl, wpAny_load hl; exact ⟨_, rfl, h⟩
theorem str_declines (b : Str) (u : Tok) (l C dx : Addr) : Meets (Builtin.«str.__eq__» ⟨[.str b u, .ref l], []⟩) (fun _ R s => s.heap.get? l = some (PySem.W.instObj C dx) ∧ R (.ok (.ret .notImplemented)) s) :=
  .of_wp fun prog w A R s h => by obtain ⟨hp, g, d, tk, os⟩ := s; obtain ⟨hl, h⟩ := h; unfold PySem.W.instObj at hl; wp_walk using wpAny_loadPart' hl, wpAny_load hl; exact ⟨_, rfl, h⟩
theorem list_declines (p l C dx : Addr) (items : Array Value) (k : Nat) (dd : Option Addr) (sl : Array (Option Value)) : Meets (Builtin.«list.__eq__» ⟨[.ref p, .ref l], []⟩)
    (fun A R s => s.heap.get? p = some { cls := .type "list", dict := dd, data := .seq items k, slots := sl } ∧ s.heap.get? l = some (PySem.W.instObj C dx) ∧ (∀ M : Model, PySem.W.Looks M s.heap (isSubtype (.ref C) (.type "list")) false) ∧ R (.ok (.ret .notImplemented)) s) :=
  .of_wp fun prog w A R s h => by
    obtain ⟨hp, g, d, tk, os⟩ := s
    obtain ⟨h1, hl, hs, h⟩ := h
    unfold PySem.W.instObj at hl
    have f1 : ∀ {A : Around} {E : Value → Shared → Prop} {Q : Bool → Shared → Prop}, Q false ⟨hp, g, d, tk, os⟩ → wpAny (model prog w) A (isSubtype (.ref C) (.type "list")) Q E ⟨hp, g, d, tk, os⟩ := fun q => (hs _).here q
    wp_walk using wpAny_loadPart' h1, wpAny_loadPart' hl, f1
    exact ⟨_, rfl, h⟩
theorem tuple_declines (p l C dx : Addr) (items : Array Value) (k : Nat) (dd : Option Addr) (sl : Array (Option Value)) : Meets (Builtin.«tuple.__eq__» ⟨[.ref p, .ref l], []⟩)
    (fun A R s => s.heap.get? p = some { cls := .type "tuple", dict := dd, data := .seq items k, slots := sl } ∧ s.heap.get? l = some (PySem.W.instObj C dx) ∧ (∀ M : Model, PySem.W.Looks M s.heap (isSubtype (.ref C) (.type "tuple")) false) ∧ R (.ok (.ret .notImplemented)) s) :=
  .of_wp fun prog w A R s h => by
    obtain ⟨hp, g, d, tk, os⟩ := s
    obtain ⟨h1, hl, hs, h⟩ := h
    unfold PySem.W.instObj at hl
    have f1 : ∀ {A : Around} {E : Value → Shared → Prop} {Q : Bool → Shared → Prop}, Q false ⟨hp, g, d, tk, os⟩ → wpAny (model prog w) A (isSubtype (.ref C) (.type "tuple")) Q E ⟨hp, g, d, tk, os⟩ := fun q => (hs _).here q
    wp_walk using wpAny_loadPart' h1, wpAny_loadPart' hl, f1
    exact ⟨_, rfl, h⟩
end

section
variable {X : Cx} {CX : CXT} {n : Nat} {f C : Addr} {fd : FuncData} {ps : List Str} {sp : Sp} {E : XK}
/-- a built-in value on the left that declines, an instance on the right -/
theorem rc_refl {prog : Program} {w : World} {A : Around} {E : Value → Shared → Prop} {s : Shared} {K : PySem.W.Frag} {u : Value} {b C f : Addr} {ob : Obj} {od : Option Obj} {Ta id : String} {Q : Value → Shared → Prop} (hu : A.units < cLine) (XK : K.In s.heap)
    (ha : s.TypeIs u Ta) (h1 : Slot Ta "__eq__" id) (J : PySem.W.InstAt s.heap b ob C od) (hsub : PySem.W.mroIn K C (.type Ta) = some false) (hs : PySem.W.findIn K (.ref C) "__eq__" = some (some (.ref f))) (hf : PySem.W.isFn K (.ref f) = true)
    (hc1 : ∀ Q' : Value → Shared → Prop, Q' .notImplemented s → wpAny (model prog w) A (call (.builtin id) [u, .ref b]) Q' E s)
    (hc2 : wpAny (model prog w) A (call (.ref f) [.ref b, u]) (PySem.W.CmpBack Q) E s) : wpAny (model prog w) A (richCompare .Eq u (.ref b)) Q E s := by
  rcases hi : cmpInfo CmpOp.Eq with ⟨sym, g, r⟩
  have e1 : g = ("__eq__" : Str) := by have := congrArg (fun z => z.2.1) hi; exact this.symm
  have e2 : r = ("__eq__" : Str) := by have := congrArg (fun z => z.2.2) hi; exact this.symm
  subst e1 e2
  simp only [richCompare, hi, ha.oneThing_none]
  refine wpAny_holding ?_
  refine wpAny_bind (wpAny_cRoomFor hu ?_)
  refine wpAny_bind (wpAny_typeOf ha (wpAny_bind (J.type.here ?_)))
  rw [show (Value.type Ta != Value.ref C) = true from rfl]
  simp only [if_true]
  refine wpAny_bind ((PySem.W.looks_mroIn XK hsub).here ?_)
  simp only [Bool.false_eq_true, if_false, Bool.not_false, if_true]
  refine wpAny_bind (m := tryCompare u _ (.ref b)) (wpAny_tryCompare_declines ha h1 (hc1 _ ⟨rfl, ?_⟩))
  have one : wpAny (model prog w) A (tryCompare (.ref b) "__eq__" u) (fun r s' => ∃ v, r = some v ∧ Q v s') E s := by
    unfold tryCompare
    refine wpAny_bind (PySem.W.ifBound_K XK J hs hf (wpAny_mono hc2 (fun v s' hv => ?_) fun _ _ e => e))
    cases v <;> first | exact hv.elim | exact wpAny_pure ⟨_, rfl, hv⟩
  refine wpAny_bind (m := tryCompare (.ref b) _ u) (wpAny_mono one (fun r s' z => ?_) fun _ _ e => e)
  obtain ⟨v, rfl, hq⟩ := z
  exact wpAny_pure hq
/-- the built-in type of a plain thing -/
def plainTy (H : Hp) (K : PySem.W.Frag) : V → String → Prop
  | .non, T => T = "NoneType"
  | .bl _, T => T = "bool"
  | .int _, T => T = "int"
  | .str _, T => T = "str"
  | .ref p, T => (T = "list" ∧ ∃ xs, SqL K H p xs) ∨ (T = "tuple" ∧ ∃ xs, SqT K H p xs)
  | _, _ => False
def rEqR (K : PySem.W.Frag) (C : Addr) (sp : Sp) (E : XK) : R2 := fun x y H Q => ∃ b dy gs T, y = .ref b ∧ H b = some (.ins C dy gs) ∧ plainTy H K x T ∧ PySem.W.mroIn K C (.type T) = some false ∧ sp [y, x] H (fun v H' => ∃ b, v = .bl b ∧ Q (.bl b) H') E
theorem rc_right (F : FnOk X.prog X.w X.K X.mg X.base CX n f fd ps sp) (hs : PySem.W.findIn X.K (.ref C) "__eq__" = some (some (.ref f))) (hf : PySem.W.isFn X.K (.ref f) = true) (hb : Binds X.K fd ps []) (hx : Passes CX X E) : RcO X n (rEqR X.K C sp E) := by
  intro A pins s σ H x y u v Q sb I rx ry hq
  obtain ⟨b, dy, gs, T, rfl, hb', pt, hm, q⟩ := hq
  cases ry
  obtain ⟨mA, J0, _⟩ := ins_get I.hok hb'
  have hobj := J0.obj
  obtain ⟨od, J, _⟩ := J0.look
  have hsub : ∀ M : Model, PySem.W.Looks M s.heap (isSubtype (.ref C) (.type T)) false := fun M => PySem.W.looks_mroIn I.kIn hm
  have r2 : Vals [V.ref b, x] [Value.ref b, u] := .cons rfl (.cons rx .nil)
  have back : wpAny (model X.prog X.w) A (call (.ref f) [.ref b, u]) (PySem.W.CmpBack fun t s' => ∃ b H', t = .bool b ∧ L2.Inv X pins σ H' s' ∧ Q (.bl b) H') X.xe s := by
    refine wpAny_mono (call_sub F hb hx sb I r2 q) (fun r s' z => ?_) fun _ _ x => x
    obtain ⟨z, H', I', rz, k, rfl, q'⟩ := z
    cases (show r = Value.bool k from rz)
    exact ⟨k, H', rfl, I', q'⟩
  cases x with
  | non =>
    cases (show u = Value.none from rx)
    cases (show T = "NoneType" from pt)
    exact rc_refl sb.room.units0 I.kIn rfl PySem.F.slot_NoneType_eq J hm hs hf (fun Q' hq' => call_gives PySem.F.slot_NoneType_eq rfl PySem.F.entry_NoneType_eq (PySem.F.args_NoneType_eq_2 _ _) (SeqAt.NoneType___eq___none_ref_0 b) hq') back
  | bl k =>
    cases (show u = Value.bool k from rx)
    cases (show T = "bool" from pt)
    exact rc_refl sb.room.units0 I.kIn rfl PySem.F.slot_bool_eq J hm hs hf (fun Q' hq' => call_meets PySem.F.slot_bool_eq rfl PySem.F.entry_int_eq (PySem.F.args_int_eq_2 _ _) (bool_declines k b C _) ⟨hobj, hq'⟩) back
  | int i =>
    obtain ⟨t, rfl⟩ := (show ∃ t, u = Value.int i t from rx)
    cases (show T = "int" from pt)
    exact rc_refl sb.room.units0 I.kIn (typeIs_int s i t) PySem.F.slot_int_eq J hm hs hf (fun Q' hq' => call_meets PySem.F.slot_int_eq (typeIs_int s i t) PySem.F.entry_int_eq (PySem.F.args_int_eq_2 _ _) (int_declines i t b C _) ⟨hobj, hq'⟩) back
  | str z =>
    obtain ⟨t, rfl⟩ := (show ∃ t, u = Value.str z t from rx)
    cases (show T = "str" from pt)
    exact rc_refl sb.room.units0 I.kIn (typeIs_str s z t) PySem.F.slot_str_eq J hm hs hf (fun Q' hq' => call_meets PySem.F.slot_str_eq (typeIs_str s z t) PySem.F.entry_str_eq (PySem.F.args_str_eq_2 _ _) (str_declines z t b C _) ⟨hobj, hq'⟩) back
  | ref p =>
    cases (show u = Value.ref p from rx)
    rcases pt with ⟨rfl, xs, hp⟩ | ⟨rfl, xs, hp⟩
    · obtain ⟨its, r, pl, hz⟩ := I.list hp
      obtain ⟨⟨cls, dd, data, sl⟩, ho, hc, k, hd⟩ := pl.isList
      simp only at hc hd
      subst hc hd
      exact rc_refl sb.room.units0 I.kIn ⟨_, ho, rfl⟩ PySem.F.slot_list_eq J hm hs hf (fun Q' hq' => call_meets PySem.F.slot_list_eq ⟨_, ho, rfl⟩ PySem.F.entry_list_eq (PySem.F.args_list_eq_2 _ _) (list_declines p b C _ _ _ _ _) ⟨ho, hobj, hsub, hq'⟩) back
    · obtain ⟨its, r, pl, hz⟩ := I.tuple hp
      obtain ⟨⟨cls, dd, data, sl⟩, ho, hc, k, hd⟩ := pl
      simp only at hc hd
      subst hc hd
      exact rc_refl sb.room.units0 I.kIn ⟨_, ho, rfl⟩ PySem.F.slot_tuple_eq J hm hs hf (fun Q' hq' => call_meets PySem.F.slot_tuple_eq ⟨_, ho, rfl⟩ PySem.F.entry_tuple_eq (PySem.F.args_tuple_eq_2 _ _) (tuple_declines p b C _ _ _ _ _) ⟨ho, hobj, hsub, hq'⟩) back
  | _ => exact False.elim pt
end

/-! ### != by the object's own == -/
section
variable {prog : Program} {w : World} {M : Model} {A : Around} {E : Value → Shared → Prop} {s : Shared} {K : PySem.W.Frag} {x C f : Addr} {ox : Obj} {od : Option Obj}
theorem ifBound_B {name : Str} {id : String} {args : List Value} {Q : Option Value → Shared → Prop} (XK : K.In s.heap) (I : PySem.W.InstAt s.heap x ox C od) (hs : PySem.W.findIn K (.ref C) name = some (some (.builtin id)))
    (hb : ∀ self, bindSpecial (.builtin id) self = pure (.builtin id, [self])) (h : wpAny M A (call (.builtin id) (.ref x :: args)) (fun v => Q (some v)) E s) : wpAny M A (callSpecialIfBound? (.ref x) name args) Q E s := by
  simp only [callSpecialIfBound?, bindSpecialIfBound?]
  refine wpAny_holding (wpAny_bind (wpAny_bind (wpAny_bind (I.type.here ((PySem.W.looks_findIn XK hs).here ?_)))))
  refine wpAny_bind (wpAny_askSetting (wpAny_ite ?_))
  have fin : wpAny M A (call (.builtin id) ([.ref x] ++ args) >>= fun v => pure (some v)) Q E s := wpAny_bind (wpAny_mono h (fun v s' h' => wpAny_pure h') fun _ _ h' => h')
  split
  · exact wpAny_bind ((PySem.W.Looks.of_pure (hb _)).here (wpAny_pure (by exact fin)))
  · exact wpAny_tryCatch (wpAny_bind ((PySem.W.Looks.of_pure (hb _)).here (wpAny_pure (by exact fin))))
open Builtin in
theorem call_objNe {b : Value} {Q : Value → Shared → Prop} (hu : A.in1.units < cLine) (XK : K.In s.heap) (I : PySem.W.InstAt s.heap x ox C od) (hm : PySem.W.mroIn K C (.type "object") = some true) (hs : PySem.W.findIn K (.ref C) "__eq__" = some (some (.ref f))) (hf : PySem.W.isFn K (.ref f) = true)
    (h : wpAny (model prog w) A.in1 (call (.ref f) [.ref x, b]) (fun v s' => ∃ k, v = .bool k ∧ Q (.bool (!k)) s') E s) : wpAny (model prog w) A (call (.builtin "object.__ne__") [.ref x, b]) Q E s := by
  refine wpAny_call (codeAny_call_builtin PySem.F.cmp_object.ne.plain PySem.F.cmpEntry_ne (PySem.W.check_slot (i := "object.__ne__") (owner := "object") (n := "__ne__") (by decide +kernel) (by decide +kernel) (I.type.andThen (PySem.W.looks_mroIn XK hm)) (PySem.F.cmpArgs_ne _ _) ?_))
  unfold Builtin.«object.__ne__»
  repeat (first
    | with_reducible refine wpAny_cRoomFor hu ?_
    | (refine wpAny_bind (m := callSpecialIfBound? (.ref x) (Str.ofString "__eq__") [b])
        (PySem.W.ifBound_K XK I hs hf (wpAny_mono h (fun r s' hr => by
          obtain ⟨k, rfl, hq⟩ := hr
          repeat (first | exact hq | exact wpAny_pure hq | exact wpAny_truthy_bool hq | (refine wpAny_bind (m := truthy (.bool _)) (wpAny_truthy_bool ?_)) | wp_step)) fun _ _ e => e)))
    | wp_step)
theorem ne_K {L : Addr} {h₀ : Heap} {m : Str → Option Value} {b tb : Value} {Q : Value → Shared → Prop} (hu : A.in1.units < cLine) (hu0 : A.units < cLine) (XK : K.In s.heap) (I : PySem.W.InstAt s.heap x ox C od) (hb : PySem.W.Looks (model prog w) s.heap (typeOf b) tb) (hn : PySem.W.notFirst K C tb = true)
    (hne : PySem.W.findIn K (.ref C) "__ne__" = some (some (.builtin "object.__ne__"))) (hm : PySem.W.mroIn K C (.type "object") = some true) (hs : PySem.W.findIn K (.ref C) "__eq__" = some (some (.ref f))) (hf : PySem.W.isFn K (.ref f) = true)
    (h : wpAny (model prog w) A.in1 (call (.ref f) [.ref x, b]) (fun v s' => ∃ k, v = .bool k ∧ Q (.bool (!k)) s') E s) : wpAny (model prog w) A (richCompare .NotEq (.ref x) b) Q E s := by
  have one : wpAny (model prog w) A (tryCompare (.ref x) "__ne__" b) (fun r s' => ∃ v, r = some v ∧ Q v s') E s := by
    unfold tryCompare
    refine wpAny_bind (ifBound_B XK I hne PySem.F.cmp_object.ne.bind (call_objNe hu XK I hm hs hf (wpAny_mono h (fun v s' hv => ?_) fun _ _ e => e)))
    obtain ⟨k, rfl, hq⟩ := hv
    exact ⟨k, rfl, wpAny_pure ⟨_, rfl, hq⟩⟩
  unfold richCompare
  simp only [oneThing_ref]
  refine wpAny_holding (wpAny_bind (wpAny_cRoomFor hu0 ?_))
  refine wpAny_bind (I.type.here (wpAny_bind (hb.here ?_)))
  split
  · rename_i q
    have e : PySem.W.subIn K tb (.ref C) = some false := by
      rcases Bool.or_eq_true_iff.mp hn with e | e
      · rw [beq_iff_eq.mp e] at q; simp at q
      · exact beq_iff_eq.mp e
    refine wpAny_bind ((PySem.W.looks_subIn XK e).here ?_)
    simp only [Bool.false_eq_true, if_false]
    refine wpAny_bind (wpAny_mono one (fun r s' z => ?_) fun _ _ e => e)
    obtain ⟨v, rfl, hq⟩ := z
    exact wpAny_pure hq
  · refine wpAny_bind (wpAny_pure ?_)
    simp only [Bool.false_eq_true, if_false]
    refine wpAny_bind (wpAny_mono one (fun r s' z => ?_) fun _ _ e => e)
    obtain ⟨v, rfl, hq⟩ := z
    exact wpAny_pure hq
end
section
variable {X : Cx} {CX : CXT} {n : Nat} {f C : Addr} {fd : FuncData} {ps : List Str} {sp : Sp} {E : XK}
def rNeO (K : PySem.W.Frag) (C : Addr) (sp : Sp) (E : XK) : R2 := fun x y H Q => ∃ a dx fs t, x = .ref a ∧ H a = some (.ins C dx fs) ∧ TyX K H y t ∧ PySem.W.notFirst K C t = true ∧ sp [x, y] H (fun v H' => ∃ b, v = .bl b ∧ Q (.bl (!b)) H') E
theorem op_neO (F : FnOk X.prog X.w X.K X.mg X.base CX n f fd ps sp) (hs : PySem.W.findIn X.K (.ref C) "__eq__" = some (some (.ref f))) (hf : PySem.W.isFn X.K (.ref f) = true) (hb : Binds X.K fd ps []) (hx : Passes CX X E)
    (hne : PySem.W.findIn X.K (.ref C) "__ne__" = some (some (.builtin "object.__ne__"))) (hm : PySem.W.mroIn X.K C (.type "object") = some true) (hr : Room (n + 1) X.A) : OpR X (compareOp .NotEq) (rNeO X.K C sp E) := by
  intro pins s σ H x y u v Q I rx ry hq
  obtain ⟨a, dx, fs, t, rfl, ha, ty, hn, q⟩ := hq
  cases rx
  obtain ⟨mA, J, _⟩ := ins_get I.hok ha
  obtain ⟨od, J, _⟩ := J.look
  obtain ⟨P, Z, p, _⟩ := kit_of I ry ty
  have sb : Sub X (n + 1) X.A := ⟨hr, rfl⟩
  show wpAny (model X.prog X.w) X.A (richCompare .NotEq (.ref a) v) (EP X pins σ Q) X.xe s
  have r2 : Vals [V.ref a, y] [Value.ref a, v] := .cons rfl (.cons ry .nil)
  refine ne_K (L := 0) (h₀ := s.heap) (m := fun _ => none) sb.in1.room.units0 sb.room.units0 I.kIn J (Z.ty _ _ I.kIn p) hn hne hm hs hf ?_
  refine wpAny_mono (call_sub F hb hx sb.in1 I r2 q) (fun r s' z => ?_) fun _ _ x => x
  obtain ⟨z, H', I', rz, b, rfl, q'⟩ := z
  cases (show r = Value.bool b from rz)
  exact ⟨b, rfl, .bl (!b), H', I', rfl, q'⟩
end

/-! ### x in [z], [x] == [y], (c, x) == (c, y), by ==  -/
section
open AutoSeq1 (wpAny_loadPart')
open MeetsSeq MeetsSeq2 MeetsSeq3 SeqRoads2 SeqAt
variable {prog : Program} {w : World} {A : Around} {R : Result → Shared → Prop}
/-- the list at l holds one thing -/
def One (s : Shared) (l : Addr) (z : Value) : Prop := ∃ (items : Array Value) (n : Nat), s.heap.get? l = some { cls := .type "list", data := .seq items n } ∧ items[(0 : Int).toNat]? = some z ∧ items[((0 : Int) + 1).toNat]? = none ∧ items.size = 1
theorem One.of {s : Shared} {l : Addr} {z : Value} {n : Nat} (h : s.heap.get? l = some { cls := .type "list", data := .seq #[z] n }) : One s l z := ⟨#[z], n, h, rfl, rfl, rfl⟩
theorem contains_loop1 (l : Addr) (x z : Value) {s : Shared} (h0 : One s l z) (h : R (.ok (.ret (.bool false))) s) :
    wpAny (model prog w) A.in1 (Builtin.«list.__contains__.loop» ⟨[.ref l, x, rawInt ((0 : Int) + 1)], []⟩) (GQ.FinOf prog w A R) (fun e s' => R (.error e) s') s := by
  obtain ⟨items, n, hl, e0, e1, _⟩ := h0
  obtain ⟨hp, g, d, tk, os⟩ := s
  wp_walk using wpAny_loadPart' hl
  rw [e1]
  wp_walk
  exact h
theorem contains1 (l : Addr) (x z : Value) {s : Shared} (h0 : One s l z)
    (he : wpAny (model prog w) A.in1 (eqBool z x) (fun b s' => (∃ z', One s' l z') ∧ R (.ok (.ret (.bool b))) s') (fun e s' => R (.error e) s') s) :
    wpAny (model prog w) A.in1 (Builtin.«list.__contains__» ⟨[.ref l, x], []⟩) (GQ.FinOf prog w A R) (fun e s' => R (.error e) s') s := by
  have step : wpAny (model prog w) A.in1 (Builtin.«list.__contains__.loop» ⟨[.ref l, x, rawInt (0 : Int)], []⟩) (GQ.FinOf prog w A R) (fun e s' => R (.error e) s') s := by
    obtain ⟨items, n, hl, e0, e1, _⟩ := h0
    obtain ⟨hp, g, d, tk, os⟩ := s
    wp_walk using wpAny_loadPart' hl
    rw [e0]
    refine wpAny_bind (wpAny_mono he (fun b s2 h2 => ?_) fun _ _ x => x)
    obtain ⟨⟨z', p2⟩, q2⟩ := h2
    cases b with
    | true =>
      wp_walk
      exact q2
    | false =>
      have nx := contains_loop1 (A := A) (w := w) (prog := prog) (R := R) l x z' p2 q2
      obtain ⟨hp2, g2, d2, tk2, os2⟩ := s2
      wp_walk
      exact ⟨plainId_quiet plain_contains_loop _, codeAny_builtin entry_contains_loop (by
        rw [Around.under_plainId plain_contains_loop _]
        exact nx)⟩
  obtain ⟨items, n, hl, e0, e1, _⟩ := h0
  obtain ⟨hp, g, d, tk, os⟩ := s
  wp_walk using wpAny_loadPart' hl
  exact ⟨plainId_quiet plain_contains_loop _, codeAny_builtin entry_contains_loop (by
    rw [Around.under_plainId plain_contains_loop _]
    exact step)⟩
theorem eq_list1_loop (l b : Addr) (x y : Value) {s : Shared} (h0 : One s l x ∧ One s b y) (h : R (.ok (.ret (.bool true))) s) :
    wpAny (model prog w) A.in1 (Builtin.«list.__eq__.loop» ⟨[.ref l, .ref b, rawInt ((0 : Int) + 1), rawInt 2], []⟩) (GQ.FinOf prog w A R) (fun e s' => R (.error e) s') s := by
  obtain ⟨⟨items, n, hl, e0, e1, z1⟩, items2, n2, hb, f0, f1, z2⟩ := h0
  obtain ⟨hp, g, d, tk, os⟩ := s
  wp_walk using wpAny_loadPart' hl, wpAny_loadPart' hb
  rw [e1, f1]
  wp_walk using wpAny_loadPart' hl, wpAny_loadPart' hb
  show R (.ok (.ret (.bool (items.size == items2.size)))) _
  rw [z1, z2]
  exact h
theorem eq_list1 (l b : Addr) (x y : Value) {s : Shared} (h0 : One s l x ∧ One s b y)
    (he : wpAny (model prog w) A.in1 (eqBool x y) (fun k s' => (∃ x' y', One s' l x' ∧ One s' b y') ∧ R (.ok (.ret (.bool k))) s') (fun e s' => R (.error e) s') s) :
    wpAny (model prog w) A.in1 (Builtin.«list.__eq__» ⟨[.ref l, .ref b], []⟩) (GQ.FinOf prog w A R) (fun e s' => R (.error e) s') s := by
  have step : wpAny (model prog w) A.in1 (Builtin.«list.__eq__.loop» ⟨[.ref l, .ref b, rawInt (0 : Int), rawInt 2], []⟩) (GQ.FinOf prog w A R) (fun e s' => R (.error e) s') s := by
    obtain ⟨⟨items, n, hl, e0, e1, z1⟩, items2, n2, hb, f0, f1, z2⟩ := h0
    obtain ⟨hp, g, d, tk, os⟩ := s
    wp_walk using wpAny_loadPart' hl, wpAny_loadPart' hb
    rw [e0, f0]
    refine wpAny_bind (wpAny_mono he (fun k s2 h2 => ?_) fun _ _ x => x)
    obtain ⟨⟨x', y', p2⟩, q2⟩ := h2
    cases k with
    | true =>
      have nx := eq_list1_loop (A := A) (w := w) (prog := prog) (R := R) l b x' y' p2 q2
      obtain ⟨hp2, g2, d2, tk2, os2⟩ := s2
      wp_walk
      exact ⟨plainId_quiet plain_eq_loop _, codeAny_builtin entry_eq_loop (by
        rw [Around.under_plainId plain_eq_loop _]
        exact nx)⟩
    | false =>
      obtain ⟨⟨items, n, hl, e0, e1, z1⟩, items2, n2, hb, f0, f1, z2⟩ := p2
      obtain ⟨hp2, g2, d2, tk2, os2⟩ := s2
      wp_walk using wpAny_loadPart' hl, wpAny_loadPart' hb
      rw [e0, f0]
      wp_walk
      exact q2
  obtain ⟨⟨items, n, hl, e0, e1, z1⟩, items2, n2, hb, f0, f1, z2⟩ := h0
  obtain ⟨hp, g, d, tk, os⟩ := s
  have f3 := AutoSeq1.sub_list_list
  have hne : ¬ (items.size != items2.size) = true := by simp [z1, z2]
  wp_walk using wpAny_loadPart' hl, wpAny_loadPart' hb
  exact ⟨plainId_quiet plain_eq_loop _, codeAny_builtin entry_eq_loop (by
    rw [Around.under_plainId plain_eq_loop _]
    exact step)⟩
/-- tuples of any length: each two of items compared in turn, to the first that differ; e tells how each comes out -/
theorem tuple_eqB (l b : Addr) (items items2 : Array Value) (n n2 : Nat) (dd dd2 : Option Addr) (sl sl2 : Array (Option Value)) (hsz : items.size = items2.size) (I : Nat → Shared → Prop) (F : Shared → Prop)
    (turn : ∀ i (h1 : i < items.size) (h2 : i < items2.size) s, I i s → wpAny (model prog w) A.in1 (eqBool items[i] items2[i]) (fun r s' => if r = true then I (i + 1) s' else F s') (fun e s' => R (.error e) s') s)
    (fin : ∀ s, I items.size s → R (.ok (.ret (.bool true))) s) (bad : ∀ s, F s → R (.ok (.ret (.bool false))) s) {s : Shared} (hl1 : s.heap.get? l = some { cls := .type "tuple", dict := dd, data := .seq items n, slots := sl }) (hb1 : s.heap.get? b = some { cls := .type "tuple", dict := dd2, data := .seq items2 n2, slots := sl2 }) (h : I 0 s) :
    wpAny (model prog w) A.in1 (Builtin.«tuple.__eq__» ⟨[.ref l, .ref b], []⟩) (GQ.FinOf prog w A R) (fun e s' => R (.error e) s') s := by
  have f2 := AutoSeq1.sub_tuple_tuple
  have hZ : (items.toList.zip items2.toList).length = items.size := by simp [hsz]
  have h0 := h
  obtain ⟨hp, g, d, tk, os⟩ := s
  wp_walk using wpAny_loadPart' hl1, wpAny_loadPart' hb1, wpAny_forIn_list _ (fun rest b s' => b.1 = none ∧ ∃ i, rest = (items.toList.zip items2.toList).drop i ∧ i ≤ items.size ∧ I i s') _
  case turn =>
    rintro ⟨y, x⟩ rest b s' ⟨hb', i, hz, hi, hI⟩
    have hlt : i < (items.toList.zip items2.toList).length := by
      rcases Nat.lt_or_ge i (items.toList.zip items2.toList).length with h' | h'
      · exact h'
      · rw [List.drop_of_length_le h'] at hz; cases hz
    have h1 : i < items.size := hZ ▸ hlt
    have h2 : i < items2.size := hsz ▸ h1
    rw [List.drop_eq_getElem_cons hlt] at hz
    injection hz with hyx hrest
    have hy : y = items[i] := by have := congrArg Prod.fst hyx; simpa using this
    have hx : x = items2[i] := by have := congrArg Prod.snd hyx; simpa using this
    subst hy hx
    refine wpAny_bind (wpAny_mono (turn i h1 h2 s' hI) (fun r s2 q2 => ?_) fun _ _ x => x)
    cases r with
    | true =>
      wp_walk
      exact ⟨rfl, i + 1, hrest, h1, q2⟩
    | false =>
      wp_walk
      exact bad _ q2
  case fin =>
    rintro ⟨b1, b2⟩ s' ⟨hb', i, hz, hi, hI⟩
    simp only at hb'
    subst hb'
    have hge : items.size ≤ i := by
      rcases Nat.lt_or_ge i (items.toList.zip items2.toList).length with h' | h'
      · rw [List.drop_eq_getElem_cons h'] at hz; cases hz
      · exact hZ ▸ h'
    have hi' : i = items.size := by omega
    have hR : R (.ok (.ret (.bool true))) s' := fin s' (hi' ▸ hI)
    wp_walk
    simpa [Builtin.Tuple.tupleCompareSizes, hsz] using hR
  case h =>
    exact ⟨rfl, 0, rfl, Nat.zero_le _, h0⟩
end
section
variable {prog : Program} {w : World} {A : Around} {R : Result → Shared → Prop}
theorem tuple_eq2 (l b : Addr) (c1 c2 x y : Value) (n n2 : Nat) (dd dd2 : Option Addr) (sl sl2 : Array (Option Value)) {s : Shared} (Tr Fa : Shared → Prop)
    (t0 : wpAny (model prog w) A.in1 (eqBool c1 c2) (fun r s' => r = true ∧ s' = s) (fun e s' => R (.error e) s') s)
    (t1 : wpAny (model prog w) A.in1 (eqBool x y) (fun r s' => if r = true then Tr s' else Fa s') (fun e s' => R (.error e) s') s)
    (fin : ∀ s, Tr s → R (.ok (.ret (.bool true))) s) (bad : ∀ s, Fa s → R (.ok (.ret (.bool false))) s) (hl1 : s.heap.get? l = some { cls := .type "tuple", dict := dd, data := .seq #[c1, x] n, slots := sl }) (hb1 : s.heap.get? b = some { cls := .type "tuple", dict := dd2, data := .seq #[c2, y] n2, slots := sl2 }) :
    wpAny (model prog w) A.in1 (Builtin.«tuple.__eq__» ⟨[.ref l, .ref b], []⟩) (GQ.FinOf prog w A R) (fun e s' => R (.error e) s') s := by
  refine tuple_eqB l b #[c1, x] #[c2, y] n n2 dd dd2 sl sl2 rfl (fun i s' => (i = 0 ∧ s' = s) ∨ (i = 1 ∧ s' = s) ∨ (i = 2 ∧ Tr s')) Fa (fun i h1 h2 s' hI => ?_) (fun s' hI => ?_) bad hl1 hb1 (.inl ⟨rfl, rfl⟩)
  · rcases hI with ⟨rfl, rfl⟩ | ⟨rfl, rfl⟩ | ⟨rfl, _⟩
    · show wpAny _ _ (eqBool c1 c2) _ _ _
      refine wpAny_mono t0 (fun r s2 z => ?_) fun _ _ x => x
      obtain ⟨rfl, rfl⟩ := z
      rw [if_pos rfl]
      exact .inr (.inl ⟨rfl, rfl⟩)
    · show wpAny _ _ (eqBool x y) _ _ _
      refine wpAny_mono t1 (fun r s2 z => ?_) fun _ _ x => x
      cases r with
      | true =>
        rw [if_pos rfl] at z ⊢
        exact .inr (.inr ⟨rfl, z⟩)
      | false =>
        rw [if_neg Bool.false_ne_true] at z ⊢
        exact z
    · exact absurd h1 (by simp)
  · rcases hI with ⟨e, _⟩ | ⟨e, _⟩ | ⟨_, h⟩
    · exact absurd e (by simp)
    · exact absurd e (by simp)
    · exact fin s' h
end
/-! ### the operators -/
section
open SeqRoads2
variable {X : Cx} {n : Nat} {r : R2}
theorem one_of {pins : List (Addr × Obj)} {σ : L2.St} {H : Hp} {s : Shared} {a : Addr} {x : V} (I : L2.Inv X pins σ H s) (h : H a = some (.lst [x])) : ∃ u, RelV x u ∧ One s a u := by
  obtain ⟨z, its, k, rv, e⟩ := I.hok a _ h
  cases rv with
  | cons r1 r2 =>
    cases r2
    exact ⟨_, r1, One.of e⟩
theorem one_eq {s : Shared} {a : Addr} {u v : Value} (h1 : One s a u) (h2 : One s a v) : u = v := by
  obtain ⟨i1, n1, g1, e1, _, _⟩ := h1
  obtain ⟨i2, n2, g2, e2, _, _⟩ := h2
  rw [g1] at g2
  cases g2
  rw [e1] at e2
  exact Option.some.inj e2
/-- x in [z] -/
def rIn1 (r : R2) : R2 := fun x y H Q => ∃ p z, y = .ref p ∧ H p = some (.lst [z]) ∧ r z x H (fun t H' => Ext H H' ∧ Q t H')
theorem op_in1 (h : EqO X n r) (hr : Room (n + 1) X.A) : OpR X (compareOp .In) (rIn1 r) := by
  intro pins s σ H x y v u Q I rx ry hq
  obtain ⟨p, z, rfl, hp, q⟩ := hq
  cases ry
  have sb : Sub X (n + 1) X.A := ⟨hr, rfl⟩
  obtain ⟨zu, rz, o1⟩ := one_of I hp
  obtain ⟨items, k, hl, _⟩ := id o1
  show wpAny _ X.A (do return .bool (← contains (.ref p) v)) (EP X pins σ Q) X.xe s
  refine wpAny_bind (wpAny_contains_slot ⟨_, hl, rfl⟩ PySem.F.slot_list_contains (wpAny_mono (GQ.call_here (A := X.A) (E := X.xe) (Q := fun t s' => ∃ b H', t = .bool b ∧ L2.Inv X pins σ H' s' ∧ Q (.bl b) H') PySem.F.slot_list_contains ⟨_, hl, rfl⟩ PySem.F.entry_list_contains (PySem.F.args_list_contains_2 _ _) ?_) (fun t s' hv => ?_) fun _ _ e => e))
  · refine contains1 p v zu o1 ?_
    refine wpAny_mono (h X.A.in1 pins s σ H z x zu v _ sb.in1 I rz rx q) (fun b s' hb => ?_) fun _ _ x => x
    obtain ⟨H', I', ex, q'⟩ := hb
    obtain ⟨zu', rz', o2⟩ := one_of I' (ex _ _ hp)
    exact ⟨⟨zu', o2⟩, b, H', rfl, I', q'⟩
  · obtain ⟨b, H', rfl, I', q'⟩ := hv
    exact wpAny_truthy_bool (wpAny_pure ⟨.bl b, H', I', rfl, q'⟩)
/-- [x] == [y] -/
def rEqL1 (r : R2) : R2 := fun u v H Q => ∃ a b x y, u = .ref a ∧ v = .ref b ∧ H a = some (.lst [x]) ∧ H b = some (.lst [y]) ∧ r x y H (fun t H' => Ext H H' ∧ Q t H')
theorem rc_list1 (h : EqO X n r) : RcO X (n + 1) (rEqL1 r) := by
  intro A pins s σ H x y u v Q sb I rx ry hq
  obtain ⟨a, b, x1, y1, rfl, rfl, ha, hb, q⟩ := hq
  cases rx
  cases ry
  obtain ⟨xu, rxu, o1⟩ := one_of I ha
  obtain ⟨yu, ryu, o2⟩ := one_of I hb
  obtain ⟨items, k, hl, _⟩ := id o1
  obtain ⟨items2, k2, hl2, _⟩ := id o2
  refine wpAny_richCompare_same_room (op := .Eq) ⟨_, hl, rfl⟩ ⟨_, hl2, rfl⟩ PySem.F.slot_list_eq (GQ.call_here PySem.F.slot_list_eq ⟨_, hl, rfl⟩ PySem.F.entry_list_eq (PySem.F.args_list_eq_2 _ _) ?_) sb.room.units0
  refine eq_list1 (R := wants (fun v s' => v ≠ .notImplemented ∧ ∃ b H', v = .bool b ∧ L2.Inv X pins σ H' s' ∧ Q (.bl b) H') X.xe) a b xu yu ⟨o1, o2⟩ ?_
  refine wpAny_mono (h A.in1 pins s σ H x1 y1 xu yu _ sb.in1 I rxu ryu q) (fun k s' hk => ?_) fun _ _ x => x
  obtain ⟨H', I', ex, q'⟩ := hk
  obtain ⟨xu', _, p1⟩ := one_of I' (ex _ _ ha)
  obtain ⟨yu', _, p2⟩ := one_of I' (ex _ _ hb)
  exact ⟨⟨xu', yu', p1, p2⟩, (fun z => nomatch z), k, H', rfl, I', q'⟩
/-- (c, x) == (d, y), c and d ints that are the same -/
def rEqT2 (K : PySem.W.Frag) (r : R2) : R2 := fun u v H Q => ∃ a b c x y, u = .ref a ∧ v = .ref b ∧ SqT K H a [.int c, x] ∧ SqT K H b [.int c, y] ∧ r x y H Q
theorem rc_tup2 (h : EqO X n r) : RcO X (n + 1) (rEqT2 X.K r) := by
  intro A pins s σ H x y u v Q sb I rx ry hq
  obtain ⟨a, b, c, x1, y1, rfl, rfl, ha, hb, q⟩ := hq
  cases rx
  cases ry
  obtain ⟨its, rv, pl, _⟩ := I.tuple ha
  obtain ⟨its2, rv2, pl2, _⟩ := I.tuple hb
  obtain ⟨⟨cls, dd, data, sl⟩, ho, hc, k, hd⟩ := id pl
  obtain ⟨⟨cls2, dd2, data2, sl2⟩, ho2, hc2, k2, hd2⟩ := id pl2
  simp only at hc hd hc2 hd2
  subst hc hd hc2 hd2
  cases rv with
  | cons r1 rv =>
  cases rv with
  | cons r2 rv =>
  cases rv
  cases rv2 with
  | cons q1 rv2 =>
  cases rv2 with
  | cons q2 rv2 =>
  cases rv2
  obtain ⟨t1, rfl⟩ := r1
  obtain ⟨t2, rfl⟩ := q1
  rename_i xu yu
  refine wpAny_richCompare_same_room (op := .Eq) ⟨_, ho, rfl⟩ ⟨_, ho2, rfl⟩ PySem.F.slot_tuple_eq (GQ.call_here PySem.F.slot_tuple_eq ⟨_, ho, rfl⟩ PySem.F.entry_tuple_eq (PySem.F.args_tuple_eq_2 _ _) ?_) sb.room.units0
  refine tuple_eq2 (R := wants (fun v s' => v ≠ .notImplemented ∧ ∃ b H', v = .bool b ∧ L2.Inv X pins σ H' s' ∧ Q (.bl b) H') X.xe) a b (.int c t1) (.int c t2) xu yu k k2 dd dd2 sl sl2
    (fun s' => ∃ H', L2.Inv X pins σ H' s' ∧ Q (.bl true) H') (fun s' => ∃ H', L2.Inv X pins σ H' s' ∧ Q (.bl false) H') ?_ ?_ ?_ ?_ ho ho2
  · exact (SeqAt.EqAt.int_int c t1 c t2) X.prog X.w _ _ ⟨beq_self_eq_true c, rfl⟩
  · refine wpAny_mono (h A.in1 pins s σ H x1 y1 xu yu _ sb.in1 I r2 q2 q) (fun k s2 hk => ?_) fun _ _ x => x
    obtain ⟨H', I', q'⟩ := hk
    cases k with
    | true => exact ⟨H', I', q'⟩
    | false => exact ⟨H', I', q'⟩
  · rintro s' ⟨H', I', q'⟩
    exact ⟨(fun z => nomatch z), true, H', rfl, I', q'⟩
  · rintro s' ⟨H', I', q'⟩
    exact ⟨(fun z => nomatch z), false, H', rfl, I', q'⟩
end

/-! ### str(x), repr(x), f"{x}" of an instance -/
section
variable {X : Cx} {CX : CXT} {n : Nat} {f C : Addr} {fd : FuncData} {ps : List Str} {sp : Sp} {E : XK}
def rTextO (C : Addr) (sp : Sp) (E : XK) : List V → Hp → VK → Prop := fun xs H Q => ∃ a dx fs, xs = [.ref a] ∧ H a = some (.ins C dx fs) ∧ sp xs H (fun v H' => ∃ z, v = .str z ∧ Q (.str z) H') E
theorem text_back {pins : List (Addr × Obj)} {σ : L2.St} {Q : VK} {r : Value} {s' : Shared} (z : EP X pins σ (fun v H' => ∃ z, v = .str z ∧ Q (.str z) H') r s') : PySem.W.StrBack (EP X pins σ Q) r s' := by
  obtain ⟨y, H', I', ry, z, rfl, q'⟩ := z
  obtain ⟨t, rfl⟩ := (show ∃ t, r = Value.str z t from ry)
  exact ⟨.str z, H', I', ⟨t, rfl⟩, q'⟩
theorem call_strO (F : FnOk X.prog X.w X.K X.mg X.base CX n f fd ps sp) (hs : PySem.W.findIn X.K (.ref C) "__str__" = some (some (.ref f))) (hf : PySem.W.isFn X.K (.ref f) = true) (hb : Binds X.K fd ps []) (hx : Passes CX X E) (hr : Room (n + 2) X.A) :
    CallR X (.type "str") (rTextO C sp E) := by
  intro pins s σ H xs us Q I r h
  obtain ⟨a, dx, fs, rfl, ha, q⟩ := h
  have r2 : Vals [V.ref a] [Value.ref a] := .cons rfl .nil
  rw [Vals.ref1 r]
  obtain ⟨mA, J, _⟩ := ins_get I.hok ha
  obtain ⟨od, J, _⟩ := J.look
  have sb : Sub X (n + 2) X.A := ⟨hr, rfl⟩
  exact PySem.W.kso_call sb.in1.in1.room.units0 I.kIn J hs hf (wpAny_mono (call_sub F hb hx sb.in1.in1 I r2 q) (fun r s' z => text_back z) fun _ _ x => x)
theorem call_reprO (F : FnOk X.prog X.w X.K X.mg X.base CX n f fd ps sp) (hs : PySem.W.findIn X.K (.ref C) "__repr__" = some (some (.ref f))) (hf : PySem.W.isFn X.K (.ref f) = true) (hb : Binds X.K fd ps []) (hx : Passes CX X E) (hr : Room (n + 1) X.A) :
    CallR X (.builtin "repr") (rTextO C sp E) := by
  intro pins s σ H xs us Q I r h
  obtain ⟨a, dx, fs, rfl, ha, q⟩ := h
  have r2 : Vals [V.ref a] [Value.ref a] := .cons rfl .nil
  rw [Vals.ref1 r]
  obtain ⟨mA, J, _⟩ := ins_get I.hok ha
  obtain ⟨od, J, _⟩ := J.look
  obtain ⟨m, hF⟩ := I.fr
  have sb : Sub X (n + 1) X.A := ⟨hr, rfl⟩
  exact PySem.W.repr_K sb.in1.room.units0 hF I.ok.mod.kin J hs hf (wpAny_mono (call_sub F hb hx sb.in1 I r2 q) (fun r s' z => text_back z) fun _ _ x => x)
def tFmtO (C : Addr) (sp : Sp) (E : XK) (te : TE) : TE := fun σ H Q => te σ H fun x H1 => rTextO C sp E [x] H1 Q
theorem pe_fmtO {e : Expr} {te : TE} {pos : Pos} (F : FnOk X.prog X.w X.K X.mg X.base CX n f fd ps sp) (hs : PySem.W.findIn X.K (.ref C) "__str__" = some (some (.ref f))) (hf : PySem.W.isFn X.K (.ref f) = true) (hb : Binds X.K fd ps []) (hx : Passes CX X E)
    (hfm : PySem.W.findIn X.K (.ref C) "__format__" = some (some (.builtin "object.__format__"))) (hm : PySem.W.mroIn X.K C (.type "object") = some true) (hr : Room (n + 1) X.A) (he : PE X e te) : PE X (.FormattedValue e (-1) none pos) (tFmtO C sp E te) := by
  refine ⟨fun pins s σ H Q I h => ?_⟩
  refine wpAny_FormattedValue_plain (thn (he.run pins s σ H _ I h) fun v s1 hv => ?_)
  obtain ⟨x, H1, I1, r1, a, dx, fs, e1, ha, q⟩ := hv
  cases e1
  cases r1
  have r2 : Vals [V.ref a] [Value.ref a] := .cons rfl .nil
  have I2 := I1.tok (s1.toks + 1)
  obtain ⟨mA, J, _⟩ := ins_get I1.hok ha
  obtain ⟨od, J, _⟩ := J.look
  have sb : Sub X (n + 1) X.A := ⟨hr, rfl⟩
  exact PySem.W.kfo_fieldS sb.in1.room.units0 I1.kIn J hfm hm hs hf (wpAny_mono (call_sub F hb hx sb.in1 I2 r2 q) (fun r s' z => text_back z) fun _ _ x => x)
end
end UO
namespace UO
open PySem L2
/-! ### what the top leaves of a class whose instances are compared -/
def sixT : List String := ["NoneType", "bool", "int", "str", "list", "tuple"]
structure InsX (K : PySem.W.Frag) (C : Addr) : Prop where
  cla : PySem.W.findIn K (.ref C) "__class__" = some (some (.builtin "object.__class__"))
  spe : PySem.W.specialIn K (.builtin "object.__class__") "__get__" = some (some (.builtin "getset_descriptor.__get__"))
  tak : PySem.W.takesIn K (.builtin "object.__class__") = some true
  mro : PySem.W.mroIn K C (.type "object") = some true
  ne : PySem.W.findIn K (.ref C) "__ne__" = some (some (.builtin "object.__ne__"))
  fmt : PySem.W.findIn K (.ref C) "__format__" = some (some (.builtin "object.__format__"))
  kit : ∀ T ∈ sixT, PySem.W.kitOne K (.type T) (.ref C) = some false
  sub : ∀ T ∈ sixT, PySem.W.mroIn K C (.type T) = some false
  fst : ∀ T ∈ sixT, PySem.W.subIn K (.type T) (.ref C) = some false
def insB (x : Str) (K : PySem.W.Frag) : Bool :=
  decide (PySem.W.findIn K (.ref (He.ga K x)) "__class__" = some (some (.builtin "object.__class__"))) && (decide (PySem.W.specialIn K (.builtin "object.__class__") "__get__" = some (some (.builtin "getset_descriptor.__get__"))) &&
  (decide (PySem.W.takesIn K (.builtin "object.__class__") = some true) && (decide (PySem.W.mroIn K (He.ga K x) (.type "object") = some true) && (decide (PySem.W.findIn K (.ref (He.ga K x)) "__ne__" = some (some (.builtin "object.__ne__"))) &&
  (decide (PySem.W.findIn K (.ref (He.ga K x)) "__format__" = some (some (.builtin "object.__format__"))) && (sixT.all (fun T => decide (PySem.W.kitOne K (.type T) (.ref (He.ga K x)) = some false)) &&
  (sixT.all (fun T => decide (PySem.W.mroIn K (He.ga K x) (.type T) = some false)) && sixT.all (fun T => decide (PySem.W.subIn K (.type T) (.ref (He.ga K x)) = some false)))))))))
theorem insB_ok {x : Str} {K : PySem.W.Frag} (h : insB x K = true) : InsX K (He.ga K x) := by
  obtain ⟨h1, h⟩ := He.ba h
  obtain ⟨h2, h⟩ := He.ba h
  obtain ⟨h3, h⟩ := He.ba h
  obtain ⟨h4, h⟩ := He.ba h
  obtain ⟨h5, h⟩ := He.ba h
  obtain ⟨h6, h⟩ := He.ba h
  obtain ⟨h7, h⟩ := He.ba h
  obtain ⟨h8, h9⟩ := He.ba h
  exact ⟨of_decide_eq_true h1, of_decide_eq_true h2, of_decide_eq_true h3, of_decide_eq_true h4, of_decide_eq_true h5, of_decide_eq_true h6, fun T hT => of_decide_eq_true (List.all_eq_true.mp h7 T hT),
    fun T hT => of_decide_eq_true (List.all_eq_true.mp h8 T hT), fun T hT => of_decide_eq_true (List.all_eq_true.mp h9 T hT)⟩
theorem InsX.ty {K : PySem.W.Frag} {C : Addr} (ix : InsX K C) (cl : Cls K C) {H : Hp} {a dx : Addr} {fs : List (Str × V)} (h : H a = some (.ins C dx fs)) : TyX K H (.ref a) (.ref C) := .base (.ins h cl ix.cla ix.spe ix.tak ix.mro)
theorem kit_self (K : PySem.W.Frag) (C : Addr) : PySem.W.kitOne K (.ref C) (.ref C) = some true := by
  unfold PySem.W.kitOne
  rw [if_pos (beq_self_eq_true _)]
theorem first_self (K : PySem.W.Frag) (C : Addr) : PySem.W.notFirst K C (.ref C) = true := by
  unfold PySem.W.notFirst
  rw [beq_self_eq_true, Bool.true_or]
theorem InsX.first {K : PySem.W.Frag} {C : Addr} (ix : InsX K C) {T : String} (hT : T ∈ sixT) : PySem.W.notFirst K C (.type T) = true := by
  unfold PySem.W.notFirst
  rw [ix.fst T hT, beq_self_eq_true, Bool.or_true]
theorem plain_ty {K : PySem.W.Frag} {H : Hp} {x : V} {T : String} (h : plainTy H K x T) : TyX K H x (.type T) ∧ T ∈ sixT := by
  cases x with
  | non => cases (show T = "NoneType" from h); exact ⟨.base .non, by decide⟩
  | bl b => cases (show T = "bool" from h); exact ⟨.base (.bl b), by decide⟩
  | int i => cases (show T = "int" from h); exact ⟨.base (.int i), by decide⟩
  | str z => cases (show T = "str" from h); exact ⟨.base (.str z), by decide⟩
  | ref p =>
    rcases h with ⟨rfl, xs, (h | ⟨o, h⟩) | ⟨o, its, n, h1, h2, _⟩⟩ | ⟨rfl, xs, (h | ⟨o, h⟩) | ⟨o, its, n, h1, h2, _⟩⟩
    · exact ⟨.base (.lst h), by decide⟩
    · exact ⟨.base (.frz h), by decide⟩
    · exact ⟨.kList h1 h2, by decide⟩
    · exact ⟨.base (.tup h), by decide⟩
    · exact ⟨.fTuple h, by decide⟩
    · exact ⟨.kTuple h1 h2, by decide⟩
  | _ => exact False.elim h
/-! ### a Hook with one more Bool -/
abbrev AlB : Type := He.AlD × Bool
def obsB (n : Nat) (fa : List He.Fa) (fn : List He.DefD) (ex : PySem.W.Frag → Bool) (g : Addr → Option Obj) : AlB := (He.obsDG n fa fn g, ex (He.frG g (He.asD g n)))
def hookB (n : Nat) (fa : List He.Fa) (fn : List He.DefD) (ex : PySem.W.Frag → Bool) : PySem.W.Hook where
  α := AlB
  obs := fun s => obsB n fa fn ex s.heap.get?
  val := fun _ => (He.valD fn, true)
  says := fun _ h => ∃ K : PySem.W.Frag, K.In h ∧ He.SaysD fa fn K ∧ ex K = true
  of := fun _ _ e => ⟨_, He.frG_in, congrArg (fun z : AlB => z.1) e, congrArg (fun z : AlB => z.2) e⟩
  keeps := fun _ _ _ ⟨K, hK, c⟩ k => ⟨K, PySem.W.Frag.In.keeps hK k, c⟩
theorem obsB_eq {n : Nat} {fa : List He.Fa} {fn : List He.DefD} {ex : PySem.W.Frag → Bool} {g : Addr → Option Obj} {s : Shared} (h : ∀ a, g a = s.heap.get? a) : obsB n fa fn ex g = (hookB n fa fn ex).obs s := by
  have e : g = s.heap.get? := funext h
  rw [e] <;> rfl
end UO
namespace UO
open PySem L2
/-! ### keyword defaults that are empty tuples -/
def kwAdr (K : PySem.W.Frag) (f : Str × Option Str) (x : Str) : Addr := match K.lookup (He.fAd K f) with
  | some ⟨_, _, .func fd, _⟩ => (match fd.kwdefaults with
    | .ref D => (match PySem.W.nsIn K D x with
      | some (some (.ref a)) => a
      | _ => 0)
    | _ => 0)
  | _ => 0
def tup0B (K : PySem.W.Frag) (a : Addr) : Bool := match K.lookup a with
  | some ⟨.type c, _, .seq its _, _⟩ => decide (c = "tuple") && decide (its.size = 0)
  | _ => false
theorem tup0B_ok {K : PySem.W.Frag} {a : Addr} (h : tup0B K a = true) (H : Hp) : SqT K H a [] := by
  unfold tup0B at h
  cases q : K.lookup a with
  | none =>
    rw [q] at h
    cases h
  | some o =>
    obtain ⟨oc, od, dt, osl⟩ := o
    rw [q] at h
    cases oc with
    | type c =>
      cases dt with
      | seq its n =>
        obtain ⟨h1, h2⟩ := He.ba (show (decide (c = "tuple") && decide (its.size = 0)) = true from h)
        have e : its.size = 0 := of_decide_eq_true h2
        refine .inr ⟨_, its, n, q, congrArg Value.type (of_decide_eq_true h1), rfl, by rw [e]; exact Nat.zero_le _, ?_⟩
        rw [Array.eq_empty_of_size_eq_zero e]
        exact .nil
      | _ => cases h
    | _ => cases dt <;> cases h
end UO

namespace UO
open PySem L2
/-! ### two classes, two rules -/
structure PairX (K : PySem.W.Frag) (C D : Addr) : Prop where
  kit : PySem.W.kitOne K (.ref C) (.ref D) = some false
  fst : PySem.W.notFirst K C (.ref D) = true
def pairB (x y : Str) (K : PySem.W.Frag) : Bool := decide (PySem.W.kitOne K (.ref (He.ga K x)) (.ref (He.ga K y)) = some false) && PySem.W.notFirst K (He.ga K x) (.ref (He.ga K y))
theorem pairB_ok {x y : Str} {K : PySem.W.Frag} (h : pairB x y K = true) : PairX K (He.ga K x) (He.ga K y) := by
  obtain ⟨h1, h2⟩ := He.ba h
  exact ⟨of_decide_eq_true h1, h2⟩
def rOr (r1 r2 : R2) : R2 := fun x y H Q => r1 x y H Q ∨ r2 x y H Q
theorem op_or {X : Cx} {f : Value → Value → Sem Value} {r1 r2 : R2} (h1 : OpR X f r1) (h2 : OpR X f r2) : OpR X f (rOr r1 r2) := by
  intro pins s σ H x y v u Q I rx ry h
  rcases h with h | h
  · exact h1 pins s σ H x y v u Q I rx ry h
  · exact h2 pins s σ H x y v u Q I rx ry h
end UO
/-! own layer: the order of texts, lists of pairs of texts, sets of texts, min(default=), sorted pairs -/
namespace UP
open PySem L2 UW

/-! ### the order of texts -/
def ltS (x y : Str) : Bool := decide (x.cps.toList < y.cps.toList)
def leS (x y : Str) : Bool := !ltS y x
theorem ltS_irr (x : Str) : ltS x x = false := decide_eq_false (List.lt_irrefl _)
theorem ltS_tr {x y z : Str} (h : ltS x y = true) (g : ltS y z = true) : ltS x z = true := decide_eq_true (List.lt_trans (of_decide_eq_true h) (of_decide_eq_true g))
theorem ltS_or {x y : Str} (h : ltS x y = false) (n : x ≠ y) : ltS y x = true := by
  have h1 : ¬ x.cps.toList < y.cps.toList := of_decide_eq_false h
  refine decide_eq_true ?_
  rcases Classical.em (y.cps.toList < x.cps.toList) with h2 | h2
  · exact h2
  · exact absurd (str_ext (List.le_antisymm (List.not_lt.mp h2) (List.not_lt.mp h1))) n
theorem leS_refl (x : Str) : leS x x = true := by
  unfold leS
  rw [ltS_irr]
  rfl
theorem leS_anti {x y : Str} (h : leS x y = true) (g : leS y x = true) : x = y := by
  rcases Classical.em (x = y) with e | e
  · exact e
  · have h1 : ltS y x = false := by
      unfold leS at h
      cases q : ltS y x
      · rfl
      · rw [q] at h
        cases h
    have := ltS_or h1 (fun z => e z.symm)
    unfold leS at g
    rw [this] at g
    cases g
theorem leS_tot (x y : Str) : leS x y = true ∨ leS y x = true := by
  unfold leS
  cases q : ltS y x
  · exact .inl rfl
  · refine .inr ?_
    cases p : ltS x y
    · rfl
    · have := ltS_tr q p
      rw [ltS_irr] at this
      cases this
theorem leS_of_lt {x y : Str} (h : ltS x y = true) : leS x y = true := by
  rcases leS_tot x y with g | g
  · exact g
  · unfold leS at g
    rw [h] at g
    cases g
theorem leS_tr {x y z : Str} (h : leS x y = true) (g : leS y z = true) : leS x z = true := by
  rcases Classical.em (x = y) with e | e
  · rw [e]
    exact g
  rcases Classical.em (y = z) with e' | e'
  · rw [← e']
    exact h
  have a : ltS x y = true := by
    unfold leS at h
    refine ltS_or ?_ (fun q => e q.symm)
    cases q : ltS y x
    · rfl
    · rw [q] at h
      cases h
  have b : ltS y z = true := by
    unfold leS at g
    refine ltS_or ?_ (fun q => e' q.symm)
    cases q : ltS z y
    · rfl
    · rw [q] at g
      cases g
  exact leS_of_lt (ltS_tr a b)
theorem rising_pw : ∀ {p : Str} {xs : List Str}, PyProof.Rows.risingS p xs = true → (p :: xs).Pairwise fun x y => leS x y = true
  | p, [], _ => List.pairwise_singleton ..
  | p, x :: xs, h => by
    unfold PyProof.Rows.risingS at h
    obtain ⟨h1, h2⟩ := Bool.and_eq_true_iff.mp h
    have ih := rising_pw h2
    have hpx : leS p x = true := by
      unfold leS ltS
      rw [← PyProof.Rows.ltCps_eq]
      exact h1
    refine List.pairwise_cons.mpr ⟨fun y hy => ?_, ih⟩
    rcases List.mem_cons.mp hy with e | hy
    · rw [e]
      exact hpx
    · exact leS_tr hpx ((List.pairwise_cons.mp ih).1 y hy)
theorem sorted_pw {xs : List Str} (h : PyProof.Rows.sortedS xs = true) : xs.Pairwise fun x y => leS x y = true := by
  cases xs with
  | nil => exact List.Pairwise.nil
  | cons x xs => exact rising_pw h
/-- two risings of one bag are one -/
theorem pw_uniq {α : Type} {r : α → α → Prop} (an : ∀ x y, r x y → r y x → x = y) : ∀ {xs ys : List α}, xs.Perm ys → xs.Pairwise r → ys.Pairwise r → xs = ys
  | [], ys, p, _, _ => (List.Perm.eq_nil p.symm).symm
  | x :: xs, [], p, _, _ => absurd p.length_eq (by simp)
  | x :: xs, y :: ys, p, h, g => by
    have e : x = y := by
      rcases List.mem_cons.mp (p.mem_iff.mp (List.mem_cons_self (a := x) (l := xs))) with e | hx
      · exact e
      · rcases List.mem_cons.mp (p.mem_iff.mpr (List.mem_cons_self (a := y) (l := ys))) with e | hy
        · exact e.symm
        · exact an _ _ ((List.pairwise_cons.mp h).1 y hy) ((List.pairwise_cons.mp g).1 x hx)
    subst e
    rw [pw_uniq an p.cons_inv (List.pairwise_cons.mp h).2 (List.pairwise_cons.mp g).2]
/-- sorted(texts) -/
def srt (xs : List Str) : List Str := xs.mergeSort leS
theorem srt_perm (xs : List Str) : (srt xs).Perm xs := List.mergeSort_perm ..
theorem srt_pw (xs : List Str) : (srt xs).Pairwise fun x y => leS x y = true := by
  refine List.pairwise_mergeSort (le := leS) (fun a b c h g => leS_tr h g) (fun a b => ?_) xs
  rcases leS_tot a b with h | h
  · rw [h]
    rfl
  · rw [h, Bool.or_true]
theorem srt_uniq {xs ys : List Str} (p : ys.Perm xs) (h : ys.Pairwise fun x y => leS x y = true) : ys = srt xs :=
  pw_uniq (fun _ _ a b => leS_anti a b) (p.trans (srt_perm xs).symm) h (srt_pw xs)
theorem srt_of {xs ys : List Str} (p : ys.Perm xs) (h : PyProof.Rows.sortedS ys = true) : ys = srt xs := srt_uniq p (sorted_pw h)
theorem srt_mem {x : Str} {xs : List Str} : x ∈ srt xs ↔ x ∈ xs := (srt_perm xs).mem_iff
theorem srt_len (xs : List Str) : (srt xs).length = xs.length := (srt_perm xs).length_eq
theorem srt_nodup {xs : List Str} (h : xs.Nodup) : (srt xs).Nodup := (srt_perm xs).nodup_iff.mpr h
/-- the least one of which p is true -/
def Least (p : Str → Prop) : Option Str → Prop
  | none => ∀ x, ¬ p x
  | some m => p m ∧ ∀ x, p x → leS m x = true
theorem Least.uniq {p : Str → Prop} {a b : Option Str} (h : Least p a) (g : Least p b) : a = b := by
  cases a with
  | none =>
    cases b with
    | none => rfl
    | some y => exact absurd g.1 (h y)
  | some x =>
    cases b with
    | none => exact absurd h.1 (g x)
    | some y => rw [leS_anti (h.2 y g.1) (g.2 x h.1)]
theorem Least.iff {p q : Str → Prop} {a : Option Str} (h : Least p a) (e : ∀ x, p x ↔ q x) : Least q a := by
  cases a with
  | none => exact fun x z => h x ((e x).mpr z)
  | some m => exact ⟨(e m).mp h.1, fun x z => h.2 x ((e x).mpr z)⟩

/-! ### lists of pairs of texts -/
inductive Prs (K : PySem.W.Frag) (H : Hp) : List V → List (Str × Str) → Prop
  | nil : Prs K H [] []
  | cons {t : Addr} {d : Str × Str} {xs : List V} {ds : List (Str × Str)} : SqT K H t [.str d.1, .str d.2] → Prs K H xs ds → Prs K H (.ref t :: xs) (d :: ds)
section
variable {K : PySem.W.Frag} {H H' : Hp} {xs ys : List V} {ds es : List (Str × Str)}
theorem Prs.same (h : Prs K H xs ds) (s : Same H H') : Prs K H' xs ds := by
  induction h with
  | nil => exact .nil
  | cons a _ ih => exact .cons (tup_same s a) ih
theorem Prs.keep {q : Addr} (h : Prs K H xs ds) (k : Kp q H H') (n : NotTp H q) : Prs K H' xs ds := by
  induction h with
  | nil => exact .nil
  | cons a _ ih => exact .cons (k.tup n a) ih
theorem Prs.len (h : Prs K H xs ds) : xs.length = ds.length := by
  induction h with
  | nil => rfl
  | cons _ _ ih => rw [List.length_cons, List.length_cons, ih]
theorem Prs.app (h : Prs K H xs ds) (g : Prs K H ys es) : Prs K H (xs ++ ys) (ds ++ es) := by
  induction h with
  | nil => exact g
  | cons a _ ih => exact .cons a ih
theorem Prs.one {t : Addr} {d : Str × Str} (a : SqT K H t [.str d.1, .str d.2]) : Prs K H [.ref t] [d] := .cons a .nil
theorem Prs.rev (h : Prs K H xs ds) : Prs K H xs.reverse ds.reverse := by
  induction h with
  | nil => exact .nil
  | cons a _ ih =>
    rw [List.reverse_cons, List.reverse_cons]
    exact ih.app (.one a)
theorem Prs.get {i : Nat} {x : V} (h : Prs K H xs ds) (e : xs[i]? = some x) : ∃ t d, x = .ref t ∧ ds[i]? = some d ∧ SqT K H t [.str d.1, .str d.2] := by
  induction h generalizing i with
  | nil => simp at e
  | @cons t d _ _ a _ ih =>
    cases i with
    | zero =>
      cases e
      exact ⟨t, d, rfl, rfl, a⟩
    | succ i => exact ih e
def enc2 (d : Str × Str) : PyData := .tuple [.str d.1, .str d.2]
def Ok2 (d : Str × Str) : Prop := PyData.strOk d.1 = true ∧ PyData.strOk d.2 = true
theorem Prs.dp (h : Prs K H xs ds) : DpAll K H xs (ds.map enc2) := by
  induction h with
  | nil => exact .nil
  | cons a _ ih => exact .cons (.tup a (.cons (.str _) (.cons (.str _) .nil))) ih
theorem lay2 {d : Str × Str} (h : Ok2 d) : PyData.canLay0 (enc2 d) = true ∧ PyData.depth (enc2 d) = 1 := by
  unfold enc2
  refine ⟨?_, ?_⟩
  · simp only [PyData.canLay0, PyData.canLayAll0, h.1, h.2, Bool.and_self]
  · simp only [PyData.depth, PyData.depthAll, Nat.max_self]
theorem layAll2 : ∀ {ds : List (Str × Str)}, (∀ d ∈ ds, Ok2 d) → PyData.canLayAll0 (ds.map enc2) = true ∧ PyData.depthAll (ds.map enc2) ≤ 1
  | [], _ => ⟨by simp only [List.map_nil, PyData.canLayAll0], by simp only [List.map_nil, PyData.depthAll]; decide⟩
  | d :: ds, h => by
    obtain ⟨c, e⟩ := layAll2 fun y hy => h y (List.mem_cons_of_mem _ hy)
    obtain ⟨c1, e1⟩ := lay2 (h d (List.mem_cons_self ..))
    rw [List.map_cons]
    refine ⟨by simp only [PyData.canLayAll0, c1, c, Bool.and_self], ?_⟩
    simp only [PyData.depthAll, e1]
    omega
theorem shaped2 {d : Str × Str} (h : Ok2 d) : SeqAt.shaped (enc2 d) = true := by
  obtain ⟨a, b⟩ := lay2 h
  refine Bool.and_eq_true_iff.mpr ⟨a, decide_eq_true ?_⟩
  rw [b]
  decide
theorem shapedL2 {ds : List (Str × Str)} (h : ∀ d ∈ ds, Ok2 d) : SeqAt.shaped (.list (ds.map enc2)) = true := by
  obtain ⟨a, b⟩ := layAll2 h
  refine Bool.and_eq_true_iff.mpr ⟨?_, decide_eq_true ?_⟩
  · simp only [PyData.canLay0]
    exact a
  · simp only [PyData.depth]
    omega
theorem eqv2 (d e : Str × Str) : PyData.eqv (enc2 d) (enc2 e) = decide (d = e) := by
  obtain ⟨a, b⟩ := d
  obtain ⟨c, f⟩ := e
  have q := eqvAll_strs [a, b] [c, f]
  unfold enc2
  rw [show ∀ xs ys, PyData.eqv (.tuple xs) (.tuple ys) = PyData.eqvAll xs ys from fun xs ys => by simp only [PyData.eqv]]
  refine q.trans (decide_eq_decide.mpr ⟨fun z => ?_, fun z => ?_⟩)
  · injection z with z1 z2
    injection z2 with z2 _
    rw [z1, z2]
  · injection z with z1 z2
    rw [z1, z2]
theorem any2 (d : Str × Str) : ∀ ds : List (Str × Str), ((ds.map enc2).any fun z => PyData.eqv z (enc2 d)) = decide (d ∈ ds)
  | [] => rfl
  | e :: ds => by
    rw [List.map_cons, List.any_cons, any2 d ds, eqv2]
    by_cases h : e = d
    · rw [decide_eq_true h, Bool.true_or, decide_eq_true (by rw [h]; exact List.mem_cons_self ..)]
    · rw [decide_eq_false h, Bool.false_or]
      exact decide_eq_decide.mpr ⟨fun z => List.mem_cons_of_mem _ z, fun z => (List.mem_cons.mp z).resolve_left fun q => h q.symm⟩
theorem eqvAll2 : ∀ ds es : List (Str × Str), PyData.eqvAll (ds.map enc2) (es.map enc2) = decide (ds = es)
  | [], [] => by simp only [List.map_nil, PyData.eqvAll]; rfl
  | [], y :: ys => by simp only [List.map_nil, List.map_cons, PyData.eqvAll]; rfl
  | x :: xs, [] => by simp only [List.map_nil, List.map_cons, PyData.eqvAll]; rfl
  | x :: xs, y :: ys => by
    rw [List.map_cons, List.map_cons, show ∀ a b as bs, PyData.eqvAll (a :: as) (b :: bs) = (PyData.eqv a b && PyData.eqvAll as bs) from fun a b as bs => by simp only [PyData.eqvAll], eqvAll2 xs ys, eqv2]
    by_cases h : x = y
    · rw [decide_eq_true h, Bool.true_and]
      exact decide_eq_decide.mpr ⟨fun e => by rw [h, e], fun e => by injection e⟩
    · rw [decide_eq_false h, Bool.false_and]
      exact (decide_eq_false fun e => h (by injection e)).symm
theorem eqvL2 (ds es : List (Str × Str)) : PyData.eqv (.list (ds.map enc2)) (.list (es.map enc2)) = decide (ds = es) := by
  rw [show ∀ xs ys, PyData.eqv (.list xs) (.list ys) = PyData.eqvAll xs ys from fun xs ys => by simp only [PyData.eqv]]
  exact eqvAll2 ds es
theorem inD2 {t a : Addr} {d : Str × Str} {Q : VK} (ht : SqT K H t [.str d.1, .str d.2]) (ha : SqL K H a xs) (hx : Prs K H xs ds) (k : Ok2 d) (ks : ∀ d ∈ ds, Ok2 d) (q : Q (.bl (decide (d ∈ ds))) H) : rInD K (.ref t) (.ref a) H Q := by
  refine ⟨enc2 d, ds.map enc2, .tup ht (.cons (.str _) (.cons (.str _) .nil)), .lst ha hx.dp, shaped2 k, shapedL2 ks, ?_⟩
  rw [any2]
  exact q
theorem notInD2 {t a : Addr} {d : Str × Str} {Q : VK} (ht : SqT K H t [.str d.1, .str d.2]) (ha : SqL K H a xs) (hx : Prs K H xs ds) (k : Ok2 d) (ks : ∀ d ∈ ds, Ok2 d) (q : Q (.bl (!decide (d ∈ ds))) H) : rNotInD K (.ref t) (.ref a) H Q := by
  refine ⟨enc2 d, ds.map enc2, .tup ht (.cons (.str _) (.cons (.str _) .nil)), .lst ha hx.dp, shaped2 k, shapedL2 ks, ?_⟩
  rw [any2]
  exact q
theorem neD2 {a b : Addr} {Q : VK} (ha : SqL K H a xs) (hx : Prs K H xs ds) (hb : SqL K H b ys) (hy : Prs K H ys es) (k : ∀ d ∈ ds, Ok2 d) (k' : ∀ d ∈ es, Ok2 d) (q : Q (.bl (!decide (ds = es))) H) : rNeD K (.ref a) (.ref b) H Q := by
  refine ⟨_, _, .lst ha hx.dp, .lst hb hy.dp, shapedL2 k, shapedL2 k', ?_⟩
  rw [eqvL2]
  exact q
theorem eqD2 {a b : Addr} {Q : VK} (ha : SqL K H a xs) (hx : Prs K H xs ds) (hb : SqL K H b ys) (hy : Prs K H ys es) (k : ∀ d ∈ ds, Ok2 d) (k' : ∀ d ∈ es, Ok2 d) (q : Q (.bl (decide (ds = es))) H) : rEqD K (.ref a) (.ref b) H Q := by
  refine ⟨_, _, .lst ha hx.dp, .lst hb hy.dp, shapedL2 k, shapedL2 k', ?_⟩
  rw [eqvL2]
  exact q
end
end UP

namespace UP
open PySem PySem.Spec PyProof.Rows L2 UW
/-! ### min(texts, default=None) -/
def rMinS (K : PySem.W.Frag) : List V → List V → Hp → VK → Prop := fun vs zs H Q => ∃ (a : Addr) (xs : List Str), vs = [.ref a] ∧ zs = [.non] ∧ SqL K H a (xs.map V.str) ∧ ∀ o, Least (fun x => x ∈ xs) o → Q (optV o) H
theorem minOf_mem (x : Str) : ∀ xs : List Str, PySem.W.minOf x xs ∈ x :: xs
  | [] => List.mem_cons_self ..
  | y :: ys => by
    show PySem.W.minOf (if PySem.W.DatumOrd.lt y x = true then y else x) ys ∈ x :: y :: ys
    have := minOf_mem (if PySem.W.DatumOrd.lt y x = true then y else x) ys
    rcases List.mem_cons.mp this with e | e
    · rw [e]
      split
      · exact List.mem_cons_of_mem _ (List.mem_cons_self ..)
      · exact List.mem_cons_self ..
    · exact List.mem_cons_of_mem _ (List.mem_cons_of_mem _ e)
theorem minOf_le (x : Str) : ∀ xs : List Str, ∀ z ∈ x :: xs, leS (PySem.W.minOf x xs) z = true
  | [], z, hz => by
    rw [List.mem_singleton.mp hz]
    exact leS_refl _
  | y :: ys, z, hz => by
    show leS (PySem.W.minOf (if PySem.W.DatumOrd.lt y x = true then y else x) ys) z = true
    have ih := minOf_le (if PySem.W.DatumOrd.lt y x = true then y else x) ys
    have h0 := ih _ (List.mem_cons_self ..)
    have hx : leS (if PySem.W.DatumOrd.lt y x = true then y else x) x = true ∧ leS (if PySem.W.DatumOrd.lt y x = true then y else x) y = true := by
      rcases Classical.em (PySem.W.DatumOrd.lt y x = true) with c | c
      · rw [if_pos c]
        exact ⟨leS_of_lt c, leS_refl _⟩
      · rw [if_neg c]
        refine ⟨leS_refl _, ?_⟩
        unfold leS
        rw [show ltS y x = false from Bool.eq_false_iff.mpr c]
        rfl
    rcases List.mem_cons.mp hz with e | hz
    · rw [e]
      exact leS_tr h0 hx.1
    · rcases List.mem_cons.mp hz with e | hz
      · rw [e]
        exact leS_tr h0 hx.2
      · exact ih z (List.mem_cons_of_mem _ hz)
theorem vals_get : ∀ {vs : List V} {us : List Value}, Vals vs us → ∀ {i : Nat} {v : Value}, us[i]? = some v → ∃ x, vs[i]? = some x ∧ RelV x v
  | _, _, .nil, i, v, h => by simp at h
  | _, _, .cons r t, 0, v, h => by
    cases h
    exact ⟨_, rfl, r⟩
  | _, _, .cons r t, i + 1, v, h => vals_get t (i := i) h
theorem cr_minS {X : Cx} (hc : X.calm = true) (hu : X.A.units + 64 < cLine) : CallRK X (.builtin "min") [Str.ofString "default"] (rMinS X.K) := by
  intro pins s σ H vs zs us ws Q I r rz h
  obtain ⟨a, xs, rfl, rfl, hs, q⟩ := h
  obtain ⟨its, rv, hl, _⟩ := I.list hs
  rw [Vals.ref1 r]
  obtain ⟨w1, rfl, rfl⟩ := vals1 rz
  obtain ⟨as, hr⟩ := Dp.readsAll I (xs.map PyData.str) _ _ (dpAll_strs (K := X.K) (H := H) xs) rv
  have hold : PySem.W.HoldAll s.heap its.toArray.toList xs := ⟨as, hr⟩
  refine PySem.W.min_list_datum_default (I.ok.hd hc) hl.isList hold (by show X.A.units + 1 + _ < cLine; have : PySem.W.Datum.depth Str = 0 := rfl; omega) (fun e h' tk hk => ⟨.non, H, I.kept hk, rfl, ?_⟩) fun y ys i v h' tk e hi hv hk => ?_
  · subst e
    exact q none (fun x hx => nomatch hx)
  · subst e
    obtain ⟨bs, rd⟩ := hv
    have hi' : its[i]? = some v := by rw [← List.getElem?_toArray]; exact hi
    obtain ⟨x, hx, rx⟩ := vals_get rv hi'
    obtain ⟨w, hw, rfl⟩ := map_str_get hx
    obtain ⟨t, rfl⟩ := rx
    have ew : w = PySem.W.minOf y ys := by
      change PySem.Reads h' (.str w t) (.str (PySem.W.minOf y ys)) bs at rd
      cases rd
      rfl
    refine ⟨.str w, H, I.kept hk, ⟨t, rfl⟩, ?_⟩
    rw [ew]
    exact q (some _) ⟨minOf_mem y ys, fun z hz => minOf_le y ys z hz⟩
end UP

namespace UP
open PySem L2
theorem take_snoc {α : Type} {ds : List α} {i : Nat} {d : α} (h : ds[i]? = some d) : ds.take (i + 1) = ds.take i ++ [d] := by
  rw [List.take_add_one, h]
  rfl
theorem un65 {k : Nat} {A : Around} (r : Room k A) : A.units + 65 < cLine := by
  have := r.un
  omega
end UP

namespace UP
open PySem PySem.Spec PyProof.Rows L2
theorem binds_all {K : PySem.W.Frag} {fd : FuncData} {ps : List Str} (h : ∃ ds, Vals [] ds ∧ Binds K fd ps ds) : Binds K fd ps [] := by
  obtain ⟨ds, r, b⟩ := h
  cases r
  exact b
section
variable {X : Cx}
/-- y = {k: v for ..}, y a plain local -/
theorem ps_setDc {i : Nat} {y : Str} {py pos spos : Pos} {kx vx tg iter : Expr} {ifs : List Expr} {scope : Scope} {own : List (Str × Nat)} {wi : TI} {g : TG} {tt : TT} {tk tv : TE}
    (hc : X.calm = true) (hN : X.N.Nodup) (hy : X.N[i]? = some y) (hyl : X.env.scope.names.lookup y = some .local) (hsw : swapsWith (.DictComp kx vx [⟨tg, iter, ifs, 0⟩] scope pos) (some (.Name y py)) spos.line X.env = pure true)
    (hi : PI X tg iter wi) (ok : BlkOk X.N X.env.scope scope own)
    (hg : ∀ s H C cl fp, PG (X.blk s H scope (compEnvC scope cl C X.env) fp) tg g) (ht : ∀ s H C cl fp, PTs (X.blk s H scope (compEnvC scope cl C X.env) fp) ifs tt)
    (hk : ∀ s H C cl fp, PE (X.blk s H scope (compEnvC scope cl C X.env) fp) kx tk) (hv : ∀ s H C cl fp, PE (X.blk s H scope (compEnvC scope cl C X.env) fp) vx tv)
    (hs : ∀ x, foldedSetIterable iter X.env x = pure x := by intro _; rfl) :
    PS X (.Assign [.Name y py] (.DictComp kx vx [⟨tg, iter, ifs, 0⟩] scope pos) spos) (tAsg (tDc wi g tt tk tv (own.map (·.2))) (gName i)) := by
  refine ⟨fun pins s σ H D I h => ?_⟩
  rw [exec_Assign_Name_used _ _ _ _ hsw]
  refine wpAny_bind (wpAny_standAt (wpAny_bind (wpAny_bind (m := comprehension _ _ _ _ newDict false (eval iter X.env) (some (assign (.Name y py) X.env))) (thn ?_ fun _ z q => wpAny_pure (wpAny_pure q)))))
  refine dc_core (Qf := fun _ z => SP X pins D .next z) hc hN I hi ok hg ht hk hv hs (Q := fun x H1 => gName i x σ H1 D.nx) h fun L C z m H2 I2 q ns fp => ?_
  show wpAny _ _ (assign (.Name y py) X.env (.ref L)) _ _ _
  refine wpAny_assign_Name (store_ok2 (v := V.ref L) I2 hN hy (.inl hyl) rfl (fun z2 J ⟨a, sb, ha⟩ => ?_) (.inr hyl))
  obtain ⟨f0, f1, f2, f3, f4, f5⟩ := fp
  have ne : C ≠ a := ha.elim (fun e => e ▸ f1) fun e q => f4 y a e q.symm
  exact ⟨m, ns.sameBut sb ne, fun h3 sb3 => ⟨_, H2, J.turned (t' := z2.toks) (fun b o hb e => (sb3.2 b hb).trans e) f0 f1 f3 f4 f5, q⟩⟩
theorem sw_dict {kx vx : Expr} {gs : List Comprehension} {scope : Scope} {pos py : Pos} {y : Str} {l : Nat} {env : Env} (hk : env.scope.kind = .function) (hy : env.scope.names.lookup y = some .local) (hl : (py.line == pos.line) = true)
    (ha : (scope.names.any fun (n, k) => n == y && (k == .local || k == .cell)) = false) : swapsWith (.DictComp kx vx gs scope pos) (some (.Name y py)) l env = pure true := by
  have e1 : env.kindOf y = some .local := hy
  have e2 : env.blockKind = .function := by
    unfold Env.blockKind
    rw [hk]
    rfl
  unfold swapsWith
  simp only [e2, e1, ha, Expr.pos, hl]
  rfl
end
end UP

namespace UP
open PySem L2
theorem pe_fldK {X : Cx} {K : PySem.W.Frag} {e : Expr} {f : Str} {pos : Pos} {ta : TE} (hK : X.K = K) (he : PE X e ta) (hb : attributeBase e f X.env (eval e X.env) = eval e X.env) : PE X (.Attribute e f pos) (tFld K ta f) := by
  subst hK
  exact pe_fld he hb
end UP

namespace UP
open PySem L2
theorem pi_listK {X : Cx} {K : PySem.W.Frag} {tg e : Expr} {te : TE} (hK : X.K = K) (he : PE X e te) : PI X tg e (iList K te) := by
  subst hK
  exact pi_list he
theorem pi_tupK {X : Cx} {K : PySem.W.Frag} {tg e : Expr} {te : TE} (hK : X.K = K) (he : PE X e te) : PI X tg e (iTup K te) := by
  subst hK
  exact pi_tup he
end UP

namespace UP
open PySem L2
/-- a walk by one rule or by another -/
def iOr (a b : TI) : TI := fun σ H R => a σ H R ∨ b σ H R
theorem pi_or {X : Cx} {tg e : Expr} {a b : TI} (h : PI X tg e a) (g : PI X tg e b) : PI X tg e (iOr a b) :=
  ⟨fun pins s σ H R I q => q.elim (h.run pins s σ H R I) (g.run pins s σ H R I)⟩
end UP
/-! own layer: dicts by names, what holds of each entry; dict comprehensions walked; the pure side of shelves -/
namespace UT
open PySem L2 UW UP
/-- a dict by names: R of each name's value -/
inductive Tab {α : Type} (R : V → Str → α → Prop) : List (Key × V) → List (Str × α) → Prop
  | nil : Tab R [] []
  | cons {kvs : List (Key × V)} {us : List (Str × α)} {w : Str} {v : V} {u : α} (e : R v w u) (h : Tab R kvs us) : Tab R ((Sum.inr w, v) :: kvs) ((w, u) :: us)
section
variable {α : Type} {R R' : V → Str → α → Prop} {kvs kvs' : List (Key × V)} {us us' : List (Str × α)}
theorem Tab.imp (h : Tab R kvs us) (f : ∀ v w u, R v w u → R' v w u) : Tab R' kvs us := by
  induction h with
  | nil => exact .nil
  | cons e _ ih => exact .cons (f _ _ _ e) ih
theorem Tab.app (h : Tab R kvs us) (g : Tab R kvs' us') : Tab R (kvs ++ kvs') (us ++ us') := by
  induction h with
  | nil => exact g
  | cons e _ ih => exact .cons e ih
theorem Tab.len (h : Tab R kvs us) : kvs.length = us.length := by
  induction h with
  | nil => rfl
  | cons _ _ ih => rw [List.length_cons, List.length_cons, ih]
theorem Tab.keys (h : Tab R kvs us) : kvs.map (·.1) = (us.map (·.1)).map Sum.inr := by
  induction h with
  | nil => rfl
  | cons _ _ ih => rw [List.map_cons, List.map_cons, List.map_cons, ih]
theorem Tab.free (h : Tab R kvs us) {w : Str} (hw : w ∉ us.map (·.1)) : valV kvs (Sum.inr w : Key) = none := by
  induction h with
  | nil => rfl
  | cons _ _ ih =>
    rw [valV_neg (fun z => hw (by rw [List.map_cons]; cases z; exact List.mem_cons_self ..))]
    exact ih fun z => hw (List.mem_cons_of_mem _ z)
theorem Tab.get (h : Tab R kvs us) (hn : (us.map (·.1)).Nodup) : ∀ p ∈ us, ∃ v, valV kvs (Sum.inr p.1 : Key) = some v ∧ R v p.1 p.2 := by
  induction h with
  | nil => intro p hp; cases hp
  | @cons _ us w v u e _ ih =>
    intro p hp
    obtain ⟨h1, h2⟩ := List.nodup_cons.mp hn
    rcases List.mem_cons.mp hp with rfl | hp'
    · exact ⟨v, valV_pos rfl, e⟩
    · obtain ⟨v', hv, r⟩ := ih h2 p hp'
      refine ⟨v', ?_, r⟩
      rw [valV_neg (fun z => h1 (List.mem_map.mpr ⟨p, hp', (Sum.inr.inj z).symm⟩))]
      exact hv
theorem Tab.at (h : Tab R kvs us) {i : Nat} {k : Key} {v : V} (e : kvs[i]? = some (k, v)) : ∃ w u, k = Sum.inr w ∧ us[i]? = some (w, u) ∧ R v w u := by
  induction h generalizing i with
  | nil => simp at e
  | @cons _ _ w v' u r _ ih =>
    cases i with
    | zero =>
      cases e
      exact ⟨w, u, rfl, rfl, r⟩
    | succ i => exact ih e
/-- one name's facts made others -/
def setU (us : List (Str × α)) (w : Str) (u : α) : List (Str × α) := us.map fun p => if p.1 = w then (w, u) else p
theorem setU_names (us : List (Str × α)) (w : Str) (u : α) : (setU us w u).map (·.1) = us.map (·.1) := by
  unfold setU
  rw [List.map_map]
  refine List.map_congr_left fun p _ => ?_
  show (if p.1 = w then (w, u) else p).1 = p.1
  by_cases c : p.1 = w
  · rw [if_pos c, c]
  · rw [if_neg c]
theorem Tab.put (h : Tab R kvs us) {w : Str} {v : V} {u : α} (hw : w ∈ us.map (·.1)) (r : R v w u) : Tab R (putK kvs (Sum.inr w) v) (setU us w u) := by
  have a : (kvs.any fun kv => decide (kv.1 = (Sum.inr w : Key))) = true := by
    have : (Sum.inr w : Key) ∈ kvs.map (·.1) := by
      rw [h.keys]
      exact List.mem_map.mpr ⟨w, hw, rfl⟩
    obtain ⟨p, hp, e⟩ := List.mem_map.mp this
    exact List.any_eq_true.mpr ⟨p, hp, decide_eq_true e⟩
  unfold putK
  rw [if_pos a]
  clear a hw
  unfold setU
  induction h with
  | nil => exact .nil
  | @cons _ _ w' v' u' e _ ih =>
    rw [List.map_cons, List.map_cons]
    by_cases c : w' = w
    · subst c
      rw [if_pos rfl, if_pos rfl]
      exact .cons r ih
    · rw [if_neg (fun z => c (by cases z; rfl)), if_neg c]
      exact .cons e ih
end
/-! ### dict comprehensions, walked -/
theorem dc_it {J : It} {n : Nat} {G : Hp → Prop} {Y : Nat → Hp → V → Hp → Prop} (w : Walk J n G Y) {g : TG} {tt : TT} {tk tv : TE} {vs : List Nat} {σ : L2.St} {H1 : Hp} {D : Addr} {Qd : Hp → Prop} (Pv : Nat → Hp → Prop) (h0 : Pv 0 (upd H1 D (.dK []))) (hG : ∀ i H, i ≤ n → Pv i H → G H)
    (hs : ∀ i x H H', i < n → Pv i H → Y i H x H' → g x (wipe σ vs) H' fun σ2 H2 => wipe σ2 vs = wipe σ vs ∧ tt σ2 H2 fun b H3 =>
      if b = true then tk σ2 H3 fun y H4 => tv σ2 H4 fun z H5 => ∃ kvs k, y = kV k ∧ H5 D = some (.dK kvs) ∧ kvs.length < sizeLine ∧ Pv (i + 1) (upd H5 D (.dK (putK kvs k z))) else Pv (i + 1) H3)
    (hd : ∀ H, Pv n H → Qd H) :
    ∃ W : Nat → Nat → Hp → Prop, (∃ m, W 0 m (upd H1 D (.dK []))) ∧ ∀ i m H, W i m H →
      (J.stop i H ∧ Qd H) ∨ (J.go i H ∧ ∃ Nx : Hp → Prop, (∀ H', Nx H' → ∃ m', m' < m ∧ W (i + 1) m' H') ∧ ∀ x H', J.yld i H x H' → g x (wipe σ vs) H' fun σ2 H2 => wipe σ2 vs = wipe σ vs ∧ tt σ2 H2 fun b H3 =>
        if b = true then tk σ2 H3 fun y H4 => tv σ2 H4 fun z H5 => ∃ kvs k, y = kV k ∧ H5 D = some (.dK kvs) ∧ kvs.length < sizeLine ∧ Nx (upd H5 D (.dK (putK kvs k z))) else Nx H3) := by
  refine ⟨fun i m H => i ≤ n ∧ m = n - i ∧ Pv i H, ⟨n, Nat.zero_le _, rfl, h0⟩, fun i m H ⟨hi, e, p⟩ => ?_⟩
  subst e
  have gH := hG i H hi p
  rcases Nat.lt_or_eq_of_le hi with lt | e
  · exact .inr ⟨w.goes i H lt gH, Pv (i + 1), fun H' p' => ⟨n - (i + 1), by omega, lt, rfl, p'⟩, fun x H' y => hs i x H H' lt p (w.yields i H x H' lt gH y)⟩
  · subst e
    exact .inl ⟨w.stops H gH, hd H p⟩
theorem at5 {α : Type} {a b c d e f : α} {r : List α} : atI (a :: b :: c :: d :: e :: f :: r) 5 = some f := atI_nat (j := 5) rfl
theorem at6 {α : Type} {a b c d e f g : α} {r : List α} : atI (a :: b :: c :: d :: e :: f :: g :: r) 6 = some g := atI_nat (j := 6) rfl
/-! ### the pure side -/
/-- the facts of a name -/
def fu (us : List (Str × UF)) (w : Str) : Option UF := (us.find? fun p => decide (p.1 = w)).map (·.2)
theorem fu_some {us : List (Str × UF)} (hn : (us.map (·.1)).Nodup) {p : Str × UF} (hp : p ∈ us) : fu us p.1 = some p.2 := by
  unfold fu
  induction us with
  | nil => cases hp
  | cons q us ih =>
    obtain ⟨h1, h2⟩ := List.nodup_cons.mp hn
    rcases List.mem_cons.mp hp with rfl | hp
    · rw [List.find?_cons_of_pos (by exact decide_eq_true rfl)]
      rfl
    · rw [List.find?_cons_of_neg (by exact fun z => h1 (List.mem_map.mpr ⟨p, hp, (of_decide_eq_true z).symm⟩))]
      exact ih h2 hp
theorem fu_of {us : List (Str × UF)} {w : Str} (hw : w ∈ us.map (·.1)) (hn : (us.map (·.1)).Nodup) : ∃ u, fu us w = some u ∧ (w, u) ∈ us := by
  obtain ⟨p, hp, rfl⟩ := List.mem_map.mp hw
  exact ⟨p.2, fu_some hn hp, hp⟩
/-- o stands in the needs or the after of w, or opens it -/
def waitsB (us : List (Str × UF)) (w o : Str) : Bool := match fu us w, fu us o with
  | some u, some v => decide (o ∈ u.needs) || (decide (o ∈ u.after) || decide (v.opens = some w))
  | _, _ => false
/-- for whom w waits, rising -/
def wt (us : List (Str × UF)) (w : Str) : List Str := (srt (us.map (·.1))).filter (waitsB us w)
theorem srt_filter (p : Str → Bool) (l : List Str) : srt (l.filter p) = (srt l).filter p :=
  (srt_uniq ((srt_perm l).filter p) ((srt_pw l).filter p)).symm
theorem wt_mem {us : List (Str × UF)} {w o : Str} : o ∈ wt us w ↔ o ∈ us.map (·.1) ∧ waitsB us w o = true := by
  unfold wt
  rw [List.mem_filter, srt_mem]
theorem waits_self {us : List (Str × UF)} (hn : (us.map (·.1)).Nodup) (h : ∀ p ∈ us, p.1 ∉ p.2.needs ∧ p.1 ∉ p.2.after ∧ p.2.opens ≠ some p.1) (w : Str) : w ∉ wt us w := fun hw => by
  obtain ⟨h1, h2⟩ := wt_mem.mp hw
  obtain ⟨u, hu, hm⟩ := fu_of h1 hn
  obtain ⟨a, b, c⟩ := h _ hm
  unfold waitsB at h2
  rw [hu] at h2
  simp only [decide_eq_false a, decide_eq_false b, decide_eq_false c, Bool.or_self] at h2
  cases h2
/-! ### rings and orders, for any relation -/
section
variable (W : Str → List Str)
/-- some of the names wait for one another without end -/
def Knotted (ns : List Str) : Prop := ∃ S : List Str, S ≠ [] ∧ (∀ n ∈ S, n ∈ ns) ∧ ∀ n ∈ S, ∃ o ∈ W n, o ∈ S
structure FreeO (ns order : List Str) : Prop where
  nd : order.Nodup
  sub : ∀ n ∈ order, n ∈ ns
  pre : ∀ i n, order[i]? = some n → ∀ o ∈ W n, o ∈ ns → o ∈ order.take i
structure IsRing (ns r : List Str) : Prop where
  two : 2 ≤ r.length
  nd : r.Nodup
  sub : ∀ n ∈ r, n ∈ ns
  step : ∀ i n, r[i]? = some n → ∃ o, r[(i + 1) % r.length]? = some o ∧ o ∈ W n
variable {W}
theorem FreeO.nil (ns : List Str) : FreeO W ns [] := ⟨List.nodup_nil, (fun n h => nomatch h), fun i n h => by simp at h⟩
theorem FreeO.snoc {ns order : List Str} (f : FreeO W ns order) {n : Str} (hn : n ∈ ns) (h : n ∉ order) (hw : ∀ o ∈ W n, o ∈ ns → o ∈ order) : FreeO W ns (order ++ [n]) := by
  refine ⟨?_, fun x hx => ?_, fun i x hx o ho hs => ?_⟩
  · rw [List.nodup_append]
    exact ⟨f.nd, List.nodup_cons.mpr ⟨by simp, List.nodup_nil⟩, fun a ha b hb e => h (by rw [← List.mem_singleton.mp hb, ← e]; exact ha)⟩
  · rcases List.mem_append.mp hx with hx | hx
    · exact f.sub x hx
    · rw [List.mem_singleton.mp hx]
      exact hn
  · rcases Nat.lt_or_ge i order.length with c | c
    · rw [List.getElem?_append_left c] at hx
      rw [List.take_append_of_le_length (Nat.le_of_lt c)]
      exact f.pre i x hx o ho hs
    · rw [List.getElem?_append_right c] at hx
      have ei : i - order.length = 0 := by
        rcases Nat.eq_zero_or_pos (i - order.length) with z | z
        · exact z
        · rw [List.getElem?_eq_none (by simp; omega)] at hx
          cases hx
      rw [ei] at hx
      cases hx
      rw [show i = order.length by omega, List.take_left]
      exact hw o ho hs
/-- what stands in such an order is in no knot -/
theorem FreeO.free {ns order : List Str} (f : FreeO W ns order) {S : List Str} (hs : ∀ n ∈ S, n ∈ ns) (hS : ∀ n ∈ S, ∃ o ∈ W n, o ∈ S) : ∀ (k : Nat) (i : Nat), i < k → ∀ n, order[i]? = some n → n ∉ S := by
  intro k
  induction k with
  | zero => intro i hi; exact absurd hi (Nat.not_lt_zero _)
  | succ k ih =>
    intro i hi n hn hm
    obtain ⟨o, ho, hoS⟩ := hS n hm
    have ht := f.pre i n hn o ho (hs o hoS)
    rw [List.mem_take_iff_getElem] at ht
    obtain ⟨j, hj, e⟩ := ht
    refine ih j (by omega) o ?_ hoS
    rw [← e]
    exact List.getElem?_eq_getElem (by omega)
theorem FreeO.no {ns order : List Str} (f : FreeO W ns order) (h : ∀ n ∈ ns, n ∈ order) : ¬ Knotted W ns := fun ⟨S, hne, hs, hS⟩ => by
  obtain ⟨n, hn⟩ := List.exists_mem_of_ne_nil S hne
  obtain ⟨i, hi, e⟩ := List.getElem_of_mem (h n (hs n hn))
  exact f.free hs hS (i + 1) i (Nat.lt_succ_self _) n (by rw [List.getElem?_eq_getElem hi, e]) hn
/-- one step of the law's own removal -/
def rstep (S : List Str) : List Str := S.filter fun n => (W n).any fun o => decide (o ∈ S)
def rsteps (W : Str → List Str) : Nat → List Str → List Str
  | 0, S => S
  | k + 1, S => rstep (W := W) (rsteps W k S)
theorem rsteps_sub {ns : List Str} : ∀ k, ∀ n ∈ rsteps W k ns, n ∈ ns
  | 0, n, h => h
  | k + 1, n, h => rsteps_sub k n (List.mem_filter.mp h).1
theorem rsteps_keep {ns S : List Str} (hs : ∀ n ∈ S, n ∈ ns) (hS : ∀ n ∈ S, ∃ o ∈ W n, o ∈ S) : ∀ k, ∀ n ∈ S, n ∈ rsteps W k ns
  | 0, n, h => hs n h
  | k + 1, n, h => by
    obtain ⟨o, ho, hoS⟩ := hS n h
    exact List.mem_filter.mpr ⟨rsteps_keep hs hS k n h, List.any_eq_true.mpr ⟨o, ho, decide_eq_true (rsteps_keep hs hS k o hoS)⟩⟩
theorem rsteps_len {ns : List Str} : ∀ k, rstep (W := W) (rsteps W k ns) = rsteps W k ns ∨ (rsteps W k ns).length + k ≤ ns.length
  | 0 => .inr (Nat.le_refl _)
  | k + 1 => by
    rcases rsteps_len (ns := ns) k with e | e
    · refine .inl ?_
      show rstep (W := W) (rstep (W := W) (rsteps W k ns)) = rstep (W := W) (rsteps W k ns)
      rw [e, e]
    · by_cases c : (rsteps W (k + 1) ns).length < (rsteps W k ns).length
      · exact .inr (by omega)
      · refine .inl ?_
        have l : (rstep (W := W) (rsteps W k ns)).length = (rsteps W k ns).length := by
          have := List.length_filter_le (fun n => (W n).any fun o => decide (o ∈ rsteps W k ns)) (rsteps W k ns)
          have c' : ¬ (rstep (W := W) (rsteps W k ns)).length < (rsteps W k ns).length := c
          unfold rstep at c' ⊢
          omega
        have e2 : rstep (W := W) (rsteps W k ns) = rsteps W k ns := List.filter_eq_self.mpr (List.length_filter_eq_length_iff.mp l)
        show rstep (W := W) (rstep (W := W) (rsteps W k ns)) = rstep (W := W) (rsteps W k ns)
        rw [e2, e2]
theorem rsteps_knot {ns : List Str} : rsteps W ns.length ns = [] ↔ ¬ Knotted W ns := by
  refine ⟨fun e ⟨S, hne, hs, hS⟩ => ?_, fun h => ?_⟩
  · obtain ⟨n, hn⟩ := List.exists_mem_of_ne_nil S hne
    have := rsteps_keep hs hS ns.length n hn
    rw [e] at this
    cases this
  · rcases rsteps_len (W := W) (ns := ns) ns.length with e | e
    · rcases Classical.em (rsteps W ns.length ns = []) with c | c
      · exact c
      · refine absurd ⟨_, c, fun n hn => rsteps_sub _ n hn, fun n hn => ?_⟩ h
        rw [← e] at hn
        obtain ⟨o, ho, z⟩ := List.any_eq_true.mp (List.mem_filter.mp hn).2
        exact ⟨o, ho, of_decide_eq_true z⟩
    · exact List.length_eq_zero_iff.mp (by omega)
/-- a trail of those that wait, each for the next -/
structure Trail (W : Str → List Str) (ns t : List Str) (n : Str) : Prop where
  nd : t.Nodup
  sub : ∀ x ∈ t, x ∈ ns
  nx : n ∈ ns
  step : ∀ i x y, t[i]? = some x → (t ++ [n])[i + 1]? = some y → y ∈ W x
theorem Trail.start {ns : List Str} {n : Str} (h : n ∈ ns) : Trail W ns [] n := ⟨List.nodup_nil, (fun x h => nomatch h), h, fun i x y h => by simp at h⟩
theorem Trail.more {ns t : List Str} {n m : Str} (h : Trail W ns t n) (hn : n ∉ t) (hm : m ∈ ns) (hw : m ∈ W n) : Trail W ns (t ++ [n]) m := by
  refine ⟨?_, fun x hx => ?_, hm, fun i x y hx hy => ?_⟩
  · rw [List.nodup_append]
    exact ⟨h.nd, List.nodup_cons.mpr ⟨by simp, List.nodup_nil⟩, fun a ha b hb e => hn (by rw [← List.mem_singleton.mp hb, ← e]; exact ha)⟩
  · rcases List.mem_append.mp hx with hx | hx
    · exact h.sub x hx
    · rw [List.mem_singleton.mp hx]
      exact h.nx
  · rcases Nat.lt_or_ge i t.length with c | c
    · rw [List.getElem?_append_left c] at hx
      rw [List.getElem?_append_left (by rw [List.length_append]; show i + 1 < t.length + 1; omega)] at hy
      exact h.step i x y hx hy
    · have hi : i < (t ++ [n]).length := (List.getElem?_eq_some_iff.mp hx).1
      rw [List.length_append] at hi
      have ei : i = t.length := by
        have : i < t.length + 1 := hi
        omega
      subst ei
      rw [List.getElem?_append_right (Nat.le_refl _), Nat.sub_self] at hx
      cases hx
      rw [List.getElem?_append_right (by rw [List.length_append]; exact Nat.le_refl _), List.length_append, show t.length + 1 - (t.length + [n].length) = 0 from Nat.sub_self _] at hy
      cases hy
      exact hw
theorem Trail.ring {ns t : List Str} {n : Str} (h : Trail W ns t n) {j : Nat} (hj : t[j]? = some n) (self : n ∉ W n) : IsRing W ns (t.drop j) := by
  have hlt : j < t.length := (List.getElem?_eq_some_iff.mp hj).1
  have key : ∀ i x, (t.drop j)[i]? = some x → ∃ o, (t.drop j)[(i + 1) % (t.drop j).length]? = some o ∧ o ∈ W x := fun i x hx => by
    rw [List.getElem?_drop] at hx
    have hi : j + i < t.length := (List.getElem?_eq_some_iff.mp hx).1
    rw [List.length_drop]
    by_cases c : j + i + 1 < t.length
    · rw [Nat.mod_eq_of_lt (by omega)]
      refine ⟨t[j + i + 1], ?_, h.step (j + i) x _ hx ?_⟩
      · rw [List.getElem?_drop, ← Nat.add_assoc]
        exact List.getElem?_eq_getElem c
      · rw [List.getElem?_append_left c]
        exact List.getElem?_eq_getElem c
    · have e : i + 1 = t.length - j := by omega
      rw [e, Nat.mod_self]
      refine ⟨n, ?_, h.step (j + i) x n hx ?_⟩
      · rw [List.getElem?_drop]
        exact hj
      · rw [show j + i + 1 = t.length by omega, List.getElem?_append_right (Nat.le_refl _), Nat.sub_self]
        rfl
  refine ⟨?_, List.Nodup.sublist (List.drop_sublist ..) h.nd, fun x hx => h.sub x (List.mem_of_mem_drop hx), key⟩
  rcases Nat.lt_or_ge 1 (t.drop j).length with c | c
  · exact c
  · have l : (t.drop j).length = 1 := by
      rw [List.length_drop] at c ⊢
      omega
    obtain ⟨o, ho, hw⟩ := key 0 n (by rw [List.getElem?_drop]; exact hj)
    rw [l, Nat.mod_self, List.getElem?_drop] at ho
    have : o = n := Option.some.inj (ho.symm.trans hj)
    rw [this] at hw
    exact absurd hw self
end
end UT
/-! own layer: dicts whose keys are tuples: comprehensions (after the library's rule for plain keys), sorted -/
namespace UD
open PySem PySem.Spec PyProof.Rows L2 UW UP
section
variable {X : Cx}
/-- d[k] = v, k a tuple, as a comprehension does it -/
theorem put_tup {pins : List (Addr × Obj)} {σ : L2.St} {H : Hp} {s : Shared} {E : Value → Shared → Prop} {D b : Addr} {kvs : List (List Key × V)} {k : List Key} {v : V} {r : Value} {Q : Unit → Shared → Prop}
    (hu : X.A.units + 1 < cLine) (I : L2.Inv X pins σ H s) (hD : H D = some (.dT kvs)) (hb : H b = some (.tup (k.map kV))) (hz : kvs.length < sizeLine) (rv : RelV v r)
    (h : ∀ s', L2.Inv X pins σ (upd H D (.dT (putK kvs k v))) s' → Q () s') : wpAny (model X.prog X.w) X.A (dictSet D (.ref b) r) Q E s := by
  obtain ⟨z, nsys, xs, rel, dd⟩ := dt_of I.hok hD
  have few : (putK kvs k v).length ≤ sizeLine := by
    have := length_putK kvs k v
    omega
  refine wpAny_dictSet_heap (hsz := by rw [← Paired.length rel]; exact z) (show X.A.units < cLine by omega) (key_of I.hok hb) dd fun h2 dd2 same => h _ ?_
  obtain ⟨o, es, ep, e1, e2, e3, e4, _, e5⟩ := dd2
  refine d_write I (by rw [hD]; exact True.intro) same ⟨o, e1⟩ ⟨few, nsys, _, (rel.put k hb rv).keeps fun c ys ec => ?_, o, es, ep, e1, e2, e3, e4, e5⟩
  rw [upd_ne (ne_of ec hD (fun q => nomatch q))]
  exact ec
/-- {k: v for ..}, the keys tuples: D the new dict -/
def tDt (wi : TI) (g : TG) (tt : TT) (tk tv : TE) (vs : List Nat) : TE := fun σ H Q => wi σ H fun J H1 => ∀ D, H1 D = none → ∃ W : Nat → Nat → Hp → Prop, (∃ m, W 0 m (upd H1 D (.dT []))) ∧ ∀ i m H, W i m H →
  (J.stop i H ∧ Q (.ref D) H) ∨ (J.go i H ∧ ∃ Nx : Hp → Prop, (∀ H', Nx H' → ∃ m', m' < m ∧ W (i + 1) m' H') ∧ ∀ x H', J.yld i H x H' → g x (wipe σ vs) H' fun σ2 H2 => wipe σ2 vs = wipe σ vs ∧ tt σ2 H2 fun c H3 =>
    if c = true then tk σ2 H3 fun y H4 => tv σ2 H4 fun z H5 => ∃ kvs k b, y = .ref b ∧ H5 b = some (.tup (k.map kV)) ∧ H5 D = some (.dT kvs) ∧ kvs.length < sizeLine ∧ Nx (upd H5 D (.dT (putK kvs k z))) else Nx H3)
theorem dt_core {pins : List (Addr × Obj)} {s : Shared} {σ : L2.St} {H : Hp} {Q : VK} {kx vx tg iter : Expr} {ifs : List Expr} {scope : Scope} {own : List (Str × Nat)} {pos pos' : Pos} {wi : TI} {g : TG} {tt : TT} {tk tv : TE} {use : Option (Value → Sem Unit)} {Qf : Value → Shared → Prop}
    (hu : X.A.units + 1 < cLine) (hc : X.calm = true) (hN : X.N.Nodup) (I : L2.Inv X pins σ H s) (hi : PI X tg iter wi) (ok : BlkOk X.N X.env.scope scope own)
    (hg : ∀ s H C cl fp, PG (X.blk s H scope (compEnvC scope cl C X.env) fp) tg g) (ht : ∀ s H C cl fp, PTs (X.blk s H scope (compEnvC scope cl C X.env) fp) ifs tt)
    (hk : ∀ s H C cl fp, PE (X.blk s H scope (compEnvC scope cl C X.env) fp) kx tk) (hv : ∀ s H C cl fp, PE (X.blk s H scope (compEnvC scope cl C X.env) fp) vx tv)
    (hs : ∀ x, foldedSetIterable iter X.env x = pure x) (h : tDt wi g tt tk tv (own.map (·.2)) σ H Q)
    (fin : ∀ D C s' m H', L2.Inv X pins σ H' s' → Q (.ref D) H' → s'.heap.Ns C m → FpOk X pins H' C → compPost (model X.prog X.w) X.A X.xe use Qf (.ref D) C (.ok .next) s') :
    wpAny (model X.prog X.w) X.A (comprehension (.DictComp kx vx [⟨tg, iter, ifs, 0⟩] scope pos) scope X.env pos' newDict false (eval iter X.env) use) Qf X.xe s := by
  have cells : ∀ y ∈ scope.names, y.2 = .free → ∃ c, X.env.cells.lookup y.1 = some c := fun y hy e => (ok.free y hy e).elim (fun q => I.ok.has _ (.inl q)) fun q => I.ok.has _ (.inr q)
  refine wpAny_comprehension_free (use := use) rfl hs (closure_ok cells) ok.kind (fun y hy e => (ok.uniq y hy).trans (congrArg some e)) (thn (hi.run pins s σ H _ I h) fun _ _ q1 => thn q1 fun _ s2 q2 => ?_)
  obtain ⟨it, fp, tn, J, H2, rfl, I2, T, st2, f2, walk⟩ := q2
  refine wpAny_newObj_type (newEnv_comp ?_)
  obtain ⟨D, eD⟩ : ∃ D, s2.heap.objs.size = D := ⟨_, rfl⟩
  have freeD : H2 D = none := I2.hok.fresh (Nat.le_of_eq eD)
  obtain ⟨W, ⟨m0, w0⟩, turn⟩ := walk D freeD
  obtain ⟨z3, e3⟩ : ∃ z3 : Shared, { s2 with heap := s2.heap.push { cls := .type "dict", data := .dict #[] } } = z3 := ⟨_, rfl⟩
  have heap3 : z3.heap = s2.heap.push { cls := .type "dict", data := .dict #[] } := by rw [← e3]
  obtain ⟨H3, eH3⟩ : ∃ H3, upd H2 D (.dT []) = H3 := ⟨_, rfl⟩
  have I3 : L2.Inv X pins σ H3 z3 := by
    rw [← e3, ← eH3]
    refine I2.laid (t' := s2.toks) (fun _ _ e => Heap.get?_push_of_some _ e) (Nat.le_of_eq eD) ?_
    rw [← eD]
    exact dt_empty s2.heap I2.big
  have lt : ∀ c ∈ fp, c < s2.heap.objs.size := fun c hc => let ⟨_, e, _⟩ := T.obj _ _ st2 c hc; Heap.lt_size e
  have f3 : ∀ c ∈ fp, FpOk X pins H3 c ∧ c < z3.heap.objs.size := fun c hc => by
    refine ⟨⟨?_, (f2 c hc).2⟩, ?_⟩
    · rw [← eH3, upd_ne (by rw [← eD]; exact Nat.ne_of_lt (lt c hc))]
      exact (f2 c hc).1
    · rw [heap3, Heap.size_push]
      exact Nat.lt_succ_of_lt (lt c hc)
  have st3 : tn 0 z3.heap := T.keep _ _ _ st2 fun _ _ _ e => by rw [heap3]; exact Heap.get?_push_of_some _ e
  have I4 := block_start I3 ok hN f3
  obtain ⟨cl, ecl⟩ : ∃ cl, cellsFrom (z3.heap.objs.size + 1) scope.names (cloFrom X.env.cells scope.names []) = cl := ⟨_, rfl⟩
  rw [ecl] at I4
  have pg := hg z3 H3 z3.heap.objs.size cl fp
  have pt := ht z3 H3 z3.heap.objs.size cl fp
  have pk := hk z3 H3 z3.heap.objs.size cl fp
  have pv := hv z3 H3 z3.heap.objs.size cl fp
  have free3 : ∀ c ∈ fp, H3 c = none := fun c hc => (f3 c hc).1.1
  rw [eH3] at w0
  rw [e3]
  show codeAny _ _ (.compStart (.DictComp kx vx [⟨tg, iter, ifs, 0⟩] scope pos) 0 (.ref it) (.ref s2.heap.objs.size) (compEnvC scope (cellsFrom (z3.heap.objs.size + 1) scope.names (cloFrom X.env.cells scope.names [])) z3.heap.objs.size X.env)) (compPost (model X.prog X.w) X.A X.xe use Qf (.ref s2.heap.objs.size) z3.heap.objs.size) { z3 with heap := pushCells (z3.heap.push { cls := .type "dict", data := .dict #[] }) scope.names }
  rw [ecl, eD]
  obtain ⟨ce, ece⟩ : ∃ ce, compEnvC scope cl z3.heap.objs.size X.env = ce := ⟨_, rfl⟩
  rw [ece] at I4 pg pt pk pv ⊢
  have loc : ce.locals = z3.heap.objs.size := by rw [← ece]; rfl
  obtain ⟨z4, e4⟩ : ∃ z4 : Shared, { z3 with heap := pushCells (z3.heap.push { cls := .type "dict", data := .dict #[] }) scope.names } = z4 := ⟨_, rfl⟩
  rw [e4] at I4 ⊢
  have st4 : tn 0 z4.heap := T.keep _ _ _ st3 fun _ _ _ e => by rw [← e4]; exact pushCells_keeps _ _ _ _ (Heap.get?_push_of_some _ e)
  have fpok : ∀ {τ : L2.St} {G : Hp} {t : Shared}, L2.Inv (X.blk z3 H3 scope ce fp) [] τ G t → (∀ c ∈ fp, G c = none) → ∀ c ∈ fp, FpOk (X.blk z3 H3 scope ce fp) [] G c := fun {τ G t} J hn c hc =>
    ⟨hn c hc, (J.ok.exf c hc).1, J.ok.exfs c hc, .inl hc, fun x a e => (J.ok.exf c hc).2 x a e, fun p hp => absurd (show p ∈ ([] : List (Addr × Obj)) ++ [] from hp) (by simp)⟩
  have loop : codeAny (model X.prog X.w) X.A (.compLoop (.DictComp kx vx [⟨tg, iter, ifs, 0⟩] scope pos) 0 (.ref it) (.ref D) ce) (compPost (model X.prog X.w) X.A X.xe use Qf (.ref D) z3.heap.objs.size) z4 := by
    refine compLoop_anyD (fun n t => ∃ i G, L2.Inv (X.blk z3 H3 scope ce fp) [] (wipe σ (own.map (·.2))) G t ∧ tn i t.heap ∧ (∀ c ∈ fp, G c = none) ∧ W i n G) ?_ m0 ⟨0, H3, I4, st4, free3, w0⟩
    rintro n t5 ⟨i, G5, J5, k5, n5, w5⟩
    rcases turn i n G5 w5 with ⟨stop, q⟩ | ⟨go, Nx, more, step⟩
    · refine thnF (T.done (X.blk z3 H3 scope ce fp) rfl rfl rfl hc i [] t5 _ G5 (fun _ _ => False) J5 (fpok J5 n5) k5 stop) fun r t6 ⟨er, J6⟩ => ?_
      subst er
      have back : L2.Inv X pins σ G5 t6 := I3.call' (ch := fp) J6.os J6.base J6.hok J6.bare fun c hc => let f := (f3 c hc).1.2; ⟨f.2.2.1, f.1, f.2.2.2.1, f.2.2.2.2⟩
      obtain ⟨m, ns, _⟩ := J6.loc
      have ns2 : t6.heap.Ns z3.heap.objs.size m := loc ▸ ns
      have gone : G5 z3.heap.objs.size = none := loc ▸ J6.free
      exact fin D z3.heap.objs.size t6 m G5 back q ns2 (I3.fpOk (Nat.le_refl _) gone)
    · refine thnF (T.item (X.blk z3 H3 scope ce fp) rfl rfl rfl hc i [] t5 _ G5 (fun _ _ => False) J5 (fpok J5 n5) k5 go) fun r t6 ⟨u, er, q6⟩ => ?_
      subst er
      refine thnF q6 fun _ t7 ⟨x, G7, J7, r7, y7, k7, n7⟩ => ?_
      refine thnF (pg.run _ t7 _ G7 x u _ (J7.pinned (fpok J7 n7) (T.obj _ _ k7)) r7 (step x G7 y7)) fun _ t8 ⟨τ, G8, J8, hw, q8⟩ => ?_
      refine thnF (pt.run _ t8 τ G8 _ J8 q8) fun c t9 ⟨G9, J9, q9⟩ => ?_
      have close : ∀ {t : Shared} {G : Hp}, L2.Inv (X.blk z3 H3 scope ce fp) ([] ++ pinsAt fp t7.heap) τ G t → Nx G → ∃ m, m < n ∧ ∃ i G, L2.Inv (X.blk z3 H3 scope ce fp) [] (wipe σ (own.map (·.2))) G t ∧ tn i t.heap ∧ (∀ c ∈ fp, G c = none) ∧ W i m G := fun {t G} J nx => by
        obtain ⟨m', lt', w'⟩ := more G nx
        have pin : ∀ c ∈ fp, ∀ o, t7.heap.get? c = some o → t.heap.get? c = some o ∧ G c = none := fun c hc o e =>
          let p := J.pin (c, o) (List.mem_append_right _ (List.mem_append_right _ (mem_pinsAt hc e)))
          ⟨p.1, p.2.1⟩
        refine ⟨m', lt', i + 1, G, (J.unpinned (pins := [])).weak (by rw [← hw, wipe_length]) (fun j v e => ?_), T.keep _ _ _ k7 fun c hc o e => (pin c hc o e).1, fun c hc => ?_, w'⟩
        · rw [← hw] at e
          exact (wipe_some e).1
        · obtain ⟨o, e, _⟩ := T.obj _ _ k7 c hc
          exact (pin c hc o e).2
      cases c with
      | false =>
        simp only [Bool.false_eq_true, if_false] at q9 ⊢
        exact close J9 q9
      | true =>
        simp only [if_true] at q9 ⊢
        refine thnF (pk.run _ t9 τ G9 _ J9 q9) fun ku t10 ⟨yk, G10, J10, r10, q10⟩ => ?_
        refine thnF (pv.run _ t10 τ G10 _ J10 q10) fun vu t11 ⟨yv, G11, J11, r11, kvs, k, b, ek, hb, hD, few, nx⟩ => ?_
        subst ek
        cases (show ku = Value.ref b from r10)
        exact put_tup (X := X.blk z3 H3 scope ce fp) hu J11 hD hb few r11 fun t12 J12 => close J12 nx
  exact codeAny_compStart_dict loop (T.self X.A 0 _ _ _ st4 loop)
/-- y = {k: v for ..}, the keys tuples, y a plain local -/
theorem ps_setDt {i : Nat} {y : Str} {py pos spos : Pos} {kx vx tg iter : Expr} {ifs : List Expr} {scope : Scope} {own : List (Str × Nat)} {wi : TI} {g : TG} {tt : TT} {tk tv : TE}
    (hu : X.A.units + 1 < cLine) (hc : X.calm = true) (hN : X.N.Nodup) (hy : X.N[i]? = some y) (hyl : X.env.scope.names.lookup y = some .local) (hsw : swapsWith (.DictComp kx vx [⟨tg, iter, ifs, 0⟩] scope pos) (some (.Name y py)) spos.line X.env = pure true)
    (hi : PI X tg iter wi) (ok : BlkOk X.N X.env.scope scope own)
    (hg : ∀ s H C cl fp, PG (X.blk s H scope (compEnvC scope cl C X.env) fp) tg g) (ht : ∀ s H C cl fp, PTs (X.blk s H scope (compEnvC scope cl C X.env) fp) ifs tt)
    (hk : ∀ s H C cl fp, PE (X.blk s H scope (compEnvC scope cl C X.env) fp) kx tk) (hv : ∀ s H C cl fp, PE (X.blk s H scope (compEnvC scope cl C X.env) fp) vx tv)
    (hs : ∀ x, foldedSetIterable iter X.env x = pure x := by intro _; rfl) :
    PS X (.Assign [.Name y py] (.DictComp kx vx [⟨tg, iter, ifs, 0⟩] scope pos) spos) (tAsg (tDt wi g tt tk tv (own.map (·.2))) (gName i)) := by
  refine ⟨fun pins s σ H D I h => ?_⟩
  rw [exec_Assign_Name_used _ _ _ _ hsw]
  refine wpAny_bind (wpAny_standAt (wpAny_bind (wpAny_bind (m := comprehension _ _ _ _ newDict false (eval iter X.env) (some (assign (.Name y py) X.env))) (thn ?_ fun _ z q => wpAny_pure (wpAny_pure q)))))
  refine dt_core (Qf := fun _ z => SP X pins D .next z) hu hc hN I hi ok hg ht hk hv hs (Q := fun x H1 => gName i x σ H1 D.nx) h fun L C z m H2 I2 q ns fp => ?_
  show wpAny _ _ (assign (.Name y py) X.env (.ref L)) _ _ _
  refine wpAny_assign_Name (store_ok2 (v := V.ref L) I2 hN hy (.inl hyl) rfl (fun z2 J ⟨a, sb, ha⟩ => ?_) (.inr hyl))
  obtain ⟨f0, f1, f2, f3, f4, f5⟩ := fp
  have ne : C ≠ a := ha.elim (fun e => e ▸ f1) fun e q => f4 y a e q.symm
  exact ⟨m, ns.sameBut sb ne, fun h3 sb3 => ⟨_, H2, J.turned (t' := z2.toks) (fun b o hb e => (sb3.2 b hb).trans e) f0 f1 f3 f4 f5, q⟩⟩
end
end UD

namespace UD
open PySem PySem.Spec PyProof.Rows L2 UW UP
/-! ### the order of pairs of texts -/
def ltP (p q : Str × Str) : Bool := if p.1 = q.1 then ltS p.2 q.2 else ltS p.1 q.1
def leP (p q : Str × Str) : Bool := !ltP q p
theorem ltS_asy {x y : Str} (h : ltS x y = true) : ltS y x = false := by
  cases q : ltS y x
  · rfl
  · have := ltS_tr h q
    rw [ltS_irr] at this
    cases this
theorem leP_iff (p q : Str × Str) : leP p q = true ↔ ltS p.1 q.1 = true ∨ (p.1 = q.1 ∧ leS p.2 q.2 = true) := by
  unfold leP ltP
  by_cases e : q.1 = p.1
  · rw [if_pos e]
    refine ⟨fun h => .inr ⟨e.symm, h⟩, fun h => ?_⟩
    rcases h with h | h
    · rw [e, ltS_irr] at h
      cases h
    · exact h.2
  · rw [if_neg e]
    refine ⟨fun h => .inl (ltS_or ?_ e), fun h => ?_⟩
    · rw [Bool.not_eq_true'] at h
      exact h
    · rcases h with h | h
      · rw [ltS_asy h]
        rfl
      · exact absurd h.1.symm e
theorem leP_tr {p q r : Str × Str} (h : leP p q = true) (g : leP q r = true) : leP p r = true := by
  rw [leP_iff] at *
  rcases h with h | ⟨h, h2⟩
  · rcases g with g | ⟨g, _⟩
    · exact .inl (ltS_tr h g)
    · rw [← g]
      exact .inl h
  · rcases g with g | ⟨g, g2⟩
    · rw [h]
      exact .inl g
    · exact .inr ⟨h.trans g, leS_tr h2 g2⟩
theorem leP_anti {p q : Str × Str} (h : leP p q = true) (g : leP q p = true) : p = q := by
  rw [leP_iff] at *
  rcases h with h | ⟨h, h2⟩
  · rcases g with g | ⟨g, _⟩
    · rw [ltS_asy h] at g
      cases g
    · rw [g, ltS_irr] at h
      cases h
  · rcases g with g | ⟨_, g2⟩
    · rw [h, ltS_irr] at g
      cases g
    · exact Prod.ext h (leS_anti h2 g2)
theorem leP_tot (p q : Str × Str) : (leP p q || leP q p) = true := by
  rw [Bool.or_eq_true, leP_iff, leP_iff]
  by_cases e : p.1 = q.1
  · rcases leS_tot p.2 q.2 with h | h
    · exact .inl (.inr ⟨e, h⟩)
    · exact .inr (.inr ⟨e.symm, h⟩)
  · cases h : ltS p.1 q.1
    · exact .inr (.inl (ltS_or h e))
    · exact .inl (.inl rfl)
/-- sorted(pairs) -/
def srtP (ds : List (Str × Str)) : List (Str × Str) := ds.mergeSort leP
theorem srtP_perm (ds : List (Str × Str)) : (srtP ds).Perm ds := List.mergeSort_perm ..
theorem srtP_pw (ds : List (Str × Str)) : (srtP ds).Pairwise fun x y => leP x y = true := List.pairwise_mergeSort (le := leP) (fun a b c h g => leP_tr h g) leP_tot ds
theorem srtP_uniq {ds es : List (Str × Str)} (p : es.Perm ds) (h : es.Pairwise fun x y => leP x y = true) : es = srtP ds := pw_uniq (fun _ _ a b => leP_anti a b) (p.trans (srtP_perm ds).symm) h (srtP_pw ds)
theorem srtP_congr {ds es : List (Str × Str)} (p : es.Perm ds) : srtP es = srtP ds := srtP_uniq ((srtP_perm es).trans p) (srtP_pw es)
theorem srtP_mem {d : Str × Str} {ds : List (Str × Str)} : d ∈ srtP ds ↔ d ∈ ds := (srtP_perm ds).mem_iff
theorem srtP_len (ds : List (Str × Str)) : (srtP ds).length = ds.length := (srtP_perm ds).length_eq
theorem le_data (a b : Str × Str) : PySem.W.dataLe false enc2 a b = leP a b := by
  show (!PySem.W.dataLt (enc2 b) (enc2 a)) = leP a b
  have e : PySem.W.dataLt (enc2 b) (enc2 a) = PySem.W.DatumOrd.lt b a := PySem.W.DatumOrd.lt_eq b a
  rw [e]
  rfl
/-! ### lists of pairs that stand by themselves -/
inductive PrH (H : Hp) : List V → List (Str × Str) → Prop
  | nil : PrH H [] []
  | cons {t : Addr} {d : Str × Str} {xs : List V} {ds : List (Str × Str)} : H t = some (.tup [.str d.1, .str d.2]) → PrH H xs ds → PrH H (.ref t :: xs) (d :: ds)
section
variable {K : PySem.W.Frag} {H H' : Hp} {xs ys : List V} {ds es : List (Str × Str)}
theorem PrH.prs (h : PrH H xs ds) : Prs K H xs ds := by
  induction h with
  | nil => exact .nil
  | cons a _ ih => exact .cons (SqT.of a) ih
theorem PrH.same (h : PrH H xs ds) (s : Same H H') : PrH H' xs ds := by
  induction h with
  | nil => exact .nil
  | cons a _ ih => exact .cons (s _ _ a) ih
theorem PrH.keep {q : Addr} (h : PrH H xs ds) (k : Kp q H H') (n : NotTup H q) : PrH H' xs ds := by
  induction h with
  | nil => exact .nil
  | cons a _ ih => exact .cons (k _ _ a (n.ne a)) ih
theorem PrH.len (h : PrH H xs ds) : xs.length = ds.length := (h.prs (K := default)).len
theorem PrH.app (h : PrH H xs ds) (g : PrH H ys es) : PrH H (xs ++ ys) (ds ++ es) := by
  induction h with
  | nil => exact g
  | cons a _ ih => exact .cons a ih
theorem PrH.get {i : Nat} {x : V} (h : PrH H xs ds) (e : xs[i]? = some x) : ∃ t d, x = .ref t ∧ ds[i]? = some d ∧ H t = some (.tup [.str d.1, .str d.2]) := by
  induction h generalizing i with
  | nil => simp at e
  | @cons t d _ _ a _ ih =>
    cases i with
    | zero =>
      cases e
      exact ⟨t, d, rfl, rfl, a⟩
    | succ i => exact ih e
def RH (H : Hp) (u : Value) (d : Str × Str) : Prop := ∃ t, u = .ref t ∧ H t = some (.tup [.str d.1, .str d.2])
theorem PrH.each (h : PrH H xs ds) {us : List Value} (r : Vals xs us) : PySem.W.EachIs (RH H) us ds := by
  induction h generalizing us with
  | nil =>
    cases r
    exact .nil
  | cons a _ ih =>
    cases r with
    | cons r1 r2 => exact .cons ⟨_, r1, a⟩ (ih r2)
theorem each_prH {us : List Value} (h : PySem.W.EachIs (RH H) us ds) : ∃ xs, Vals xs us ∧ PrH H xs ds := by
  induction h with
  | nil => exact ⟨[], .nil, .nil⟩
  | cons a _ ih =>
    obtain ⟨xs, r, p⟩ := ih
    obtain ⟨t, rfl, ht⟩ := a
    exact ⟨.ref t :: xs, .cons rfl r, .cons ht p⟩
end
section
variable {X : Cx}
/-- sorted(xs), xs a list of pairs of texts -/
def rSortP (K : PySem.W.Frag) : List V → Hp → VK → Prop := fun vs H Q => ∃ (a : Addr) (xs : List V) (ds : List (Str × Str)), vs = [.ref a] ∧ SqL K H a xs ∧ PrH H xs ds ∧ ds.length ≤ 1000 ∧
  ∀ p ys, H p = none → PrH H ys (srtP ds) → Q (.ref p) (upd H p (.lst ys))
theorem each_reads {pins : List (Addr × Obj)} {σ : L2.St} {H : Hp} {s : Shared} (I : L2.Inv X pins σ H s) {xs : List V} {ds : List (Str × Str)} {us : List Value} (h : PrH H xs ds) (r : Vals xs us) : PySem.W.EachIs (fun v b => ∃ as, PySem.Reads s.heap v (enc2 b) as) us ds := by
  obtain ⟨as, hr⟩ := Dp.readsAll I (ds.map enc2) _ _ (h.prs (K := X.K)).dp r
  exact PySem.W.readsAll_each enc2 hr
theorem sort_eq (ds : List (Str × Str)) : ds.mergeSort (PySem.W.dataLe false enc2) = srtP ds := by
  have : PySem.W.dataLe false enc2 = leP := funext fun a => funext fun b => le_data a b
  rw [this]
  rfl
theorem depth2 (d : Str × Str) : PyData.depth (enc2 d) = 1 := by
  unfold enc2
  simp only [PyData.depth, PyData.depthAll, Nat.max_self]
theorem alike2 (ds : List (Str × Str)) : PySem.W.AllAlike (ds.map enc2) := PySem.W.AllAlike.of fun a b => PySem.W.DatumOrd.alike a b
theorem sortable2 (ds : List (Str × Str)) : PySem.W.Sortable (ds.map enc2) := PySem.W.Sortable.tuples fun b => ⟨_, _, rfl⟩
theorem cr_sortP (hu : X.A.units + 64 < cLine) : CallR X (.builtin "sorted") (rSortP X.K) := by
  intro pins s σ H vs us Q I r h
  obtain ⟨a, xs, ds, rfl, hs, hp, few, q⟩ := h
  obtain ⟨its, rv, hl, _⟩ := I.list hs
  rw [Vals.ref1 r]
  refine PySem.W.sorted_data (R := RH H) (enc := enc2) hl.isList (hp.each rv) (each_reads I hp rv) (alike2 ds) (sortable2 ds) (Nat.le_of_lt (small1000 few)) (fun b _ => by rw [depth2]; omega) fun out hlen ho => ?_
  rw [sort_eq] at ho
  obtain ⟨ys, ry, py⟩ := each_prH ho
  obtain ⟨ep, he⟩ := PyProof.Rows.sortedAll_at s.heap its out.toArray
  refine ⟨.ref _, upd H (s.heap.objs.size + 1) (.lst ys), I.laid (t' := s.toks) (fun _ _ => PyProof.Rows.sortedAll_old) (Nat.le_succ _) ⟨?_, out, ep, ry, he⟩, rfl, q _ ys (I.hok.fresh (Nat.le_succ _)) py⟩
  rw [py.len, srtP_len]
  exact Nat.le_of_lt (small1000 few)
end
end UD

namespace UD
open PySem PySem.Spec PyProof.Rows L2 UW UP
theorem readsAll2 {h : Heap} {l : List Value} {x y : Str} {as : List Addr} (r : PySem.ReadsAll h l [.str x, .str y] as) : as = [] := by
  cases r with
  | cons r5 r6 =>
    cases r5
    cases r6 with
    | cons r7 r8 =>
      cases r7
      cases r8
      rfl
theorem reads2 {h : Heap} {v : Value} {d : Str × Str} {as : List Addr} (r : PySem.Reads h v (enc2 d) as) : as = [] := by
  unfold enc2 at r
  cases r with
  | tuple _ _ _ r4 => exact readsAll2 r4
def key2 (d : Str × Str) : List Key := [Sum.inr d.1, Sum.inr d.2]
theorem keys_prH {H : Hp} : ∀ {kvs : List (List Key × V)} {bs : List Addr} {ds : List (Str × Str)}, IsKeys H kvs bs → kvs.map (·.1) = ds.map key2 → PrH H (bs.map V.ref) ds
  | _, _, [], .nil, _ => .nil
  | _, _, d :: ds, .nil, e => by simp at e
  | _, _, [], .cons _ _, e => by simp at e
  | _, _, d :: ds, .cons h t, e => by
    rw [List.map_cons, List.map_cons] at e
    injection e with e1 e2
    rw [List.map_cons]
    refine .cons ?_ (keys_prH t e2)
    rw [e1] at h
    exact h
section
variable {X : Cx}
/-- sorted(d), the keys of d pairs of texts -/
def rSortDT : List V → Hp → VK → Prop := fun vs H Q => ∃ (a : Addr) (kvs : List (List Key × V)) (ds : List (Str × Str)), vs = [.ref a] ∧ Rd H a (.dT kvs) ∧ kvs.map (·.1) = ds.map key2 ∧ ds.length ≤ 1000 ∧
  ∀ p ys, H p = none → PrH H ys (srtP ds) → Q (.ref p) (upd H p (.lst ys))
theorem cr_sortDT (hc : X.calm = true) (hu : X.A.units + 64 < cLine) : CallR X (.builtin "sorted") rSortDT := by
  intro pins s σ H vs us Q I r h
  obtain ⟨a, kvs, ds, rfl, hd, hkeys, few, q⟩ := h
  rw [Vals.ref1 r]
  obtain ⟨_, nsys, ks, pr, o, es, ep, ho, hx, hdt, he, _⟩ := (show ObjOk X.prog X.w H s.heap a (.dT kvs) from hd.ok I.hok)
  have l1 : es.size = ks.length := size_of_entries he
  have l2 : kvs.length = ks.length := Paired.length pr
  have l3 : kvs.length = ds.length := by
    have := congrArg List.length hkeys
    rw [List.length_map, List.length_map] at this
    exact this
  have room : ds.length ≤ sizeLine := Nat.le_of_lt (small1000 few)
  refine Calls.call_function_entry PyProof.Rows.kind_sorted PyProof.Rows.plain_sorted PyProof.Rows.entry_sorted (PyProof.Rows.args_sorted1 _) ?_
  unfold Builtin.«sorted»
  refine wpAny_bind (m := checkCount "sorted" 1 1 _) (wpAny_pure ?_)
  refine wpAny_bind (PySem.W.kdu_collect (A := X.A.in1) (kdl_raw nsys hx hdt) (I.ok.hd hc) ho (by omega) fun h2 tk acc keep items => ?_)
  have hacc : acc.toList = (ks.map fun x => x.2.1).map Value.ref := by
    have len : acc.toList.length = ks.length := by
      rw [Array.length_toList, items.1]
      exact l1
    rw [List.map_map]
    refine List.ext_getElem? fun j => ?_
    rw [List.getElem?_map]
    rcases Nat.lt_or_ge j ks.length with c | c
    · have hj : acc.toList[j]? = some acc.toList[j] := List.getElem?_eq_getElem (by omega)
      obtain ⟨en, hen, hv⟩ := items.2 j _ (by rw [← Array.getElem?_toList]; exact hj)
      have qe := entry_at he j
      rw [hen, List.getElem?_eq_getElem c] at qe
      rw [hj, hv, List.getElem?_eq_getElem c, Option.some.inj qe]
      rfl
    · rw [List.getElem?_eq_none (by omega), List.getElem?_eq_none c]
      rfl
  have I1 : L2.Inv X pins σ H { s with heap := h2, toks := tk } := I.kept keep
  have pH := keys_prH (isKeys_of pr) hkeys
  have rv : Vals ((ks.map fun x => x.2.1).map V.ref) acc.toList := by
    rw [hacc]
    exact vals_refs _
  have alen : acc.toList.length = ds.length := by rw [← rv.length, pH.len]
  refine wpAny_bind (wpAny_newList ?_ (by rw [alen]; exact room))
  have here : (h2.push (seqObj "list" acc.toList.toArray 0)).get? h2.objs.size = some (seqObj "list" acc.toList.toArray 0) := Heap.get?_push_size _ rfl
  have reads : PySem.W.EachIs (fun v b => ∃ as, PySem.Reads (h2.push (seqObj "list" acc.toList.toArray 0)) v (enc2 b) as ∧ h2.objs.size ∉ as) acc.toList ds :=
    (each_reads I1 pH rv).mono fun v b ⟨as, rd⟩ => ⟨as, PyProof.Rows.Reads.keeps (fun _ _ e => Heap.get?_push_of_some _ e) rd, by rw [reads2 rd]; simp⟩
  refine wpAny_bind (wpAny_holding (PySem.W.list_sort_data (A := X.A.in1) (s := { s with heap := h2.push (seqObj "list" acc.toList.toArray 0), toks := tk }) (R := RH H) (enc := enc2) here (pH.each rv) reads (alike2 ds) (sortable2 ds) room (fun b _ => by rw [depth2]; show X.A.units + 1 + 1 + 1 < cLine; omega) fun out hlen hout => ?_))
  rw [sort_eq] at hout
  obtain ⟨ys, ry, py⟩ := each_prH hout
  obtain ⟨e2, at2⟩ := PyProof.Rows.sortedHeap_at (vs := acc.toList) (out := out.toArray) here
  refine wpAny_pure ⟨_, rfl, .ref h2.objs.size, upd H h2.objs.size (.lst ys), I1.laid (t' := tk) (fun b u e => ?_) (Nat.le_refl _) ⟨?_, out, e2, ry, at2⟩, rfl, q _ ys (I1.hok.fresh (Nat.le_refl _)) py⟩
  · have lt : b < h2.objs.size := Heap.lt_size e
    rw [PyProof.Rows.sortedHeap_old (Nat.ne_of_lt lt) (by rw [size_push']; exact Nat.lt_succ_of_lt lt)]
    exact Heap.get?_push_of_some _ e
  · rw [py.len, srtP_len]
    exact room
end
end UD

namespace UD
open PySem L2 UW UP
theorem NotTup.dT {H : Hp} {q : Addr} {kvs : List (List Key × V)} (h : H q = some (.dT kvs)) : NotTup H q := fun ys e => by rw [h] at e; cases e
/-- a comprehension with tuple keys, walked -/
theorem dt_it {J : It} {n : Nat} {G : Hp → Prop} {Y : Nat → Hp → V → Hp → Prop} (w : Walk J n G Y) {g : TG} {tt : TT} {tk tv : TE} {vs : List Nat} {σ : L2.St} {H1 : Hp} {D : Addr} {Qd : Hp → Prop} (Pv : Nat → Hp → Prop) (h0 : Pv 0 (upd H1 D (.dT []))) (hG : ∀ i H, i ≤ n → Pv i H → G H)
    (hs : ∀ i x H H', i < n → Pv i H → Y i H x H' → g x (wipe σ vs) H' fun σ2 H2 => wipe σ2 vs = wipe σ vs ∧ tt σ2 H2 fun c H3 =>
      if c = true then tk σ2 H3 fun y H4 => tv σ2 H4 fun z H5 => ∃ kvs k b, y = .ref b ∧ H5 b = some (.tup (k.map kV)) ∧ H5 D = some (.dT kvs) ∧ kvs.length < sizeLine ∧ Pv (i + 1) (upd H5 D (.dT (putK kvs k z))) else Pv (i + 1) H3)
    (hd : ∀ H, Pv n H → Qd H) :
    ∃ W : Nat → Nat → Hp → Prop, (∃ m, W 0 m (upd H1 D (.dT []))) ∧ ∀ i m H, W i m H →
      (J.stop i H ∧ Qd H) ∨ (J.go i H ∧ ∃ Nx : Hp → Prop, (∀ H', Nx H' → ∃ m', m' < m ∧ W (i + 1) m' H') ∧ ∀ x H', J.yld i H x H' → g x (wipe σ vs) H' fun σ2 H2 => wipe σ2 vs = wipe σ vs ∧ tt σ2 H2 fun c H3 =>
        if c = true then tk σ2 H3 fun y H4 => tv σ2 H4 fun z H5 => ∃ kvs k b, y = .ref b ∧ H5 b = some (.tup (k.map kV)) ∧ H5 D = some (.dT kvs) ∧ kvs.length < sizeLine ∧ Nx (upd H5 D (.dT (putK kvs k z))) else Nx H3) := by
  refine ⟨fun i m H => i ≤ n ∧ m = n - i ∧ Pv i H, ⟨n, Nat.zero_le _, rfl, h0⟩, fun i m H ⟨hi, e, p⟩ => ?_⟩
  subst e
  have gH := hG i H hi p
  rcases Nat.lt_or_eq_of_le hi with lt | e
  · exact .inr ⟨w.goes i H lt gH, Pv (i + 1), fun H' p' => ⟨n - (i + 1), by omega, lt, rfl, p'⟩, fun x H' y => hs i x H H' lt p (w.yields i H x H' lt gH y)⟩
  · subst e
    exact .inl ⟨w.stops H gH, hd H p⟩
theorem key2_inj {a b : Str × Str} (h : key2 a = key2 b) : a = b := by
  unfold key2 at h
  injection h with h1 h2
  injection h2 with h2 _
  exact Prod.ext (Sum.inr.inj h1) (Sum.inr.inj h2)
theorem key2_mem {d : Str × Str} {es : List (Str × Str)} : key2 d ∈ es.map key2 ↔ d ∈ es :=
  ⟨fun h => by obtain ⟨e, he, q⟩ := List.mem_map.mp h; rw [← key2_inj q]; exact he, fun h => List.mem_map.mpr ⟨d, h, rfl⟩⟩
/-- whether a pair is a key -/
theorem val2 {kvs : List (List Key × V)} {es : List (Str × Str)} (h : kvs.map (·.1) = es.map key2) (d : Str × Str) : (valV kvs (key2 d)).isSome = decide (d ∈ es) := by
  rw [← valV_any]
  by_cases c : d ∈ es
  · rw [decide_eq_true c, List.any_eq_true]
    have : key2 d ∈ kvs.map (·.1) := by
      rw [h]
      exact key2_mem.mpr c
    obtain ⟨p, hp, e⟩ := List.mem_map.mp this
    exact ⟨p, hp, decide_eq_true e⟩
  · rw [decide_eq_false c, Bool.eq_false_iff]
    intro z
    obtain ⟨p, hp, e⟩ := List.any_eq_true.mp z
    refine c (key2_mem.mp ?_)
    rw [← h, ← of_decide_eq_true e]
    exact List.mem_map.mpr ⟨p, hp, rfl⟩
theorem put2_new {kvs : List (List Key × V)} {es : List (Str × Str)} (h : kvs.map (·.1) = es.map key2) {d : Str × Str} (hd : d ∉ es) (v : V) : (putK kvs (key2 d) v).map (·.1) = (es ++ [d]).map key2 := by
  have e := val2 h d
  rw [decide_eq_false hd] at e
  rw [putK_new v (Option.not_isSome_iff_eq_none.mp (by rw [e]; exact Bool.false_ne_true)), List.map_append, List.map_append, h]
  rfl
theorem put2_old {kvs : List (List Key × V)} {es : List (Str × Str)} (h : kvs.map (·.1) = es.map key2) {d : Str × Str} (hd : d ∈ es) (v : V) : (putK kvs (key2 d) v).map (·.1) = es.map key2 := by
  have e := val2 h d
  rw [decide_eq_true hd, ← valV_any] at e
  unfold putK
  rw [if_pos e, List.map_map, ← h]
  refine List.map_congr_left fun p _ => ?_
  show (if p.1 = key2 d then (p.1, v) else p).1 = p.1
  split <;> rfl
theorem len2 {kvs : List (List Key × V)} {es : List (Str × Str)} (h : kvs.map (·.1) = es.map key2) : kvs.length = es.length := by
  have := congrArg List.length h
  rw [List.length_map, List.length_map] at this
  exact this
theorem snoc_nodup {α : Type} {l : List α} {x : α} (h : l.Nodup) (n : x ∉ l) : (l ++ [x]).Nodup := by
  rw [List.nodup_append]
  exact ⟨h, List.nodup_cons.mpr ⟨by simp, List.nodup_nil⟩, fun a ha b hb e => n (by rw [← List.mem_singleton.mp hb, ← e]; exact ha)⟩
end UD
/-! own layer: a def's promise where nothing is being shown (the guards are empty), the end of a law over it, repr of data -/
namespace UG
open PySem PySem.Spec PyProof.Rows L2
/-- what a def keeps, called where the guards are empty -/
structure FnG (P : Program) (w : World) (K : PySem.W.Frag) (mg : Str → Option Value) (base : Heap) (CX : CXT) (k : Nat) (f : Addr) (fd : FuncData) (ps : List Str) (sp : Sp) : Prop where
  count : ∀ vs H Q E, sp vs H Q E → vs.length = ps.length
  goes : ∀ (A : Around) (outer : List Env) (s : Shared) (H : Hp) (args : Args) (us : List Value) (vs : List V) (Q : VK) (E : XK), A.guards = some [] → Room k A → Env0 P w K mg base A outer s H →
    BindsTo s fd args (ps.zip us) → Vals vs us → sp vs H Q E → codeAny (model P w) A (.call (.ref f) args) (CR CX outer P w H s Q E) s
section
variable {P : Program} {w : World} {K : PySem.W.Frag} {mg : Str → Option Value} {base : Heap} {CX : CXT} {k : Nat} {f : Addr} {fd : FuncData} {N ps : List Str} {sp : Sp} {x qual : Str} {params : Arguments} {body : List Stmt} {scope : Scope} {dvs : List V} {kws : List (Str × V)}
theorem okG (F : FunD K x qual params body scope dvs kws f fd) (S : FnScope N ps scope) (count : ∀ vs H Q E, sp vs H Q E → vs.length = ps.length)
    (inner : ∀ (cdv : Value) (A : Around) (outer : List Env) (s : Shared) (H : Hp) (vs : List V) (Q : VK) (E : XK), A.guards = some [] → Room k (A.deeper (envOfC qual scope s.heap.objs.size f cdv)) → sp vs H Q E →
      ∃ t, PSs (cxOf CX P w K mg base N qual scope f cdv A outer s H E) body t ∧ t { nx := fun _ H' => Q .non H', rt := Q } (start N vs) H) : FnG P w K mg base CX (k + 1) f fd ps sp := by
  obtain ⟨oc, od, dV, kV, doc, pm, an, cdv, ct, osl, rfl, place, code, _, _⟩ := F.ex
  refine ⟨count, fun A outer s H args us vs Q E quiet room env bind vals good => ?_⟩
  obtain ⟨t, sound, holds⟩ := inner cdv A outer s H vs Q E quiet (room.deeper _) good
  have old : ∀ b o, base.get? b = some o → s.heap.get? b = some o := fun b o e => (env.bs b o e).1
  have kin := env.mod.kin.keeps old
  have slots : ∀ y ∈ ps.zip us, scope.names.lookup y.1 = some .local ∨ (scope.names.lookup y.1 = some .cell ∧ ((cellsFrom (s.heap.objs.size + 1) scope.names []).lookup y.1).isSome = true) := by
    intro y hy
    have := S.par y.1 (List.of_mem_zip (a := y.1) (b := y.2) hy).1
    exact this.imp id fun c => ⟨c, PySem.W.cellsFrom_some _ _ _ (.inl c)⟩
  apply codeAny_call_function room.depth (kin _ _ place) rfl S.co S.gen rfl (PySem.W.codeRec_of kin code)
  apply bind
  refine wpAny_newFunctionEnv_cells S.kind slots ?_
  rintro _ rfl s1 step
  have inv := inv_start (CX := CX) (E := E) S room.hd env (count _ _ _ _ good) vals step
  refine ⟨(env.mod.nolimit.keeps old).keeps step.toInCall.keep, codeAny_func (wpAny_mono (sound.run [] s1 (start N vs) H _ inv holds) ?_ fun _ _ z => z)⟩
  rintro (_ | _ | _ | u) s' out
  · obtain ⟨_, H', J, done⟩ := out
    exact ⟨.non, H', J.os, J.bare, J.base, J.hok, rfl, done⟩
  · exact out.elim fun _ ⟨_, _, no⟩ => no.elim
  · exact out.elim fun _ ⟨_, _, no⟩ => no.elim
  · obtain ⟨v, _, H', J, rel, done⟩ := out
    exact ⟨v, H', J.os, J.bare, J.base, J.hok, rel, done⟩
end
/-! ### a law's end -/
section
variable {P : Program} {w : World} {K : PySem.W.Frag} {mg mb : Str → Option Value} {CX : CXT} {k : Nat} {f a : Addr} {fd : FuncData} {y : Str} {sp : Sp} {s : Shared} {vs : List Value} {ns : List Int}
/-- the heap of the call: nothing, or the script alone, which stays -/
def Scr (H : Hp) (a : Addr) (vs : List Value) (ns : List Int) : Prop := ∀ b, H b = none ∨ (b = a ∧ H b = some (.frz { cls := .type "list", data := .seq vs.toArray } (.lst (ns.map V.int))))
theorem end_at {H : Hp} (only : Scr H a vs ns) (kin : K.In s.heap) (apart : H a ≠ none → K.lookup a = none) (glob : s.heap.Ns mainGlobals mg) (bn : s.heap.Ns builtinsNs mb) (boot : ∀ z : Str, z ≠ "__name__" → mb z = bootBuiltins z) (lim : s.heap.NoLimit) (gens : s.gens = #[])
    (at_ : s.heap.get? a = some { cls := .type "list", data := .seq vs.toArray }) (hok : HOk P w H s.heap) (room : Room k callerA)
    (F : ∀ base : Heap, K.In base → base.Ns mainGlobals mg → FnG P w K mg base CX k f fd [y] sp) (bind : ∀ (s : Shared) (u : Value), BindsTo s fd ⟨[u], []⟩ [(y, u)])
    (good : sp [.ref a] H (fun v _ => v = .bl true) fun _ _ _ => False) (calm : ∀ e s', CX [] H s (fun _ _ _ => False) e s' → False) :
    codeAny (model P w) callerA (.call (.ref f) ⟨[.ref a], []⟩) (fun r s' => r = .ok (.ret (.bool true)) ∧ OldK s.heap s'.heap ∧ s'.os = s.os ∧ AllBare s'.gens) s := by
  have bare : ∀ {b : Addr} {o : Obj}, s.heap.get? b = some o → b ≠ a → H b = none := fun {b o} _ n => (only b).resolve_right fun z => n z.1
  have shows : ∀ {b : Addr} {o : Obj}, s.heap.get? b = some o → H b = none → (hidT s.heap H).get? b = some o := hidT_get
  have names : ∀ {b : Addr} {m : Str → Option Value}, s.heap.Ns b m → (hidT s.heap H).Ns b m := by
    rintro b m ⟨o, es, ep, e, dd, r⟩
    refine ⟨o, es, ep, shows e (bare e ?_), dd, r⟩
    rintro rfl
    have same := Option.some.inj (at_.symm.trans e)
    rw [← same] at dd
    exact Data.noConfusion dd
  have kin' : K.In (hidT s.heap H) := by
    intro b o e
    refine shows (kin b o e) (Classical.byContradiction fun n => ?_)
    rcases only b with z | ⟨rfl, _⟩
    · exact n z
    · rw [apart n] at e
      cases e
  have env : Env0 P w K mg (hidT s.heap H) callerA [] s H :=
    ⟨rfl, ⟨kin', names glob, ⟨mb, names bn, boot⟩, (lim.elim fun mc z => ⟨mc, names z.1, z.2⟩)⟩, (fun _ _ z => of_hidT z), Nat.le_of_eq (hidT_size _ _), trivial, (fun b z => nomatch z), hok, .of_eq gens⟩
  refine codeAny_mono ((F _ kin' (names glob)).goes callerA [] s H ⟨[.ref a], []⟩ [.ref a] [.ref a] _ _ rfl room env (bind s _) (.cons rfl .nil) good) ?_
  rintro (e | _ | _ | _ | u) s' out
  · exact (calm e s' out).elim
  · exact False.elim out
  · exact False.elim out
  · exact False.elim out
  obtain ⟨v, H', os, gs, un, hok', rel, rfl⟩ := out
  cases rel
  refine ⟨rfl, OldK.of_keep fun b o e => ?_, os, gs⟩
  rcases only b with z | ⟨_, z⟩
  · exact un.keep b o e z (fun q => nomatch q) (fun q => nomatch q)
  · have h1 := (hok b _ z).1
    have h2 := (hok' b _ (un.frzs b _ _ z)).1
    rw [← Option.some.inj (h1.symm.trans e)]
    exact h2
end
/-- the law as it is asked, from its promise -/
theorem endG {l : PySem.W.OpenLaw} {n k : Nat} {q : Program} {loose : List Str} {XP : (Str → Option Value) → Heap → Prop} {YP : World → Heap → Prop} {d : DefRec} {CX : CXT} {y : Str}
    (most : l.most = some n) (fits : n ≤ sizeLine) (plain : d.params.defaults = []) (room : Room k callerA)
    (F : ∀ (w : World) (mg : Str → Option Value) (fa : Addr) (h : Heap), YP w h → h.Ns mainGlobals mg → mg d.name = some (.ref fa) →
      ∃ (K : PySem.W.Frag) (fd : FuncData) (sp : Sp), K.In h ∧ (∀ (s : Shared) (u : Value), BindsTo s fd ⟨[u], []⟩ [(y, u)]) ∧
        (∀ (H : Hp) (a : Addr) (ns : List Int), ns.length ≤ n → SqL K H a (ns.map V.int) → sp [.ref a] H (fun v _ => v = .bl true) fun _ _ _ => False) ∧
        ∀ base : Heap, K.In base → base.Ns mainGlobals mg → FnG l.prog w K mg base CX k fa fd [y] sp)
    (calm : ∀ (H : Hp) (s : Shared) (e : Value) (s' : Shared), CX [] H s (fun _ _ _ => False) e s' → False) :
    PySem.W.WalkO q loose XP YP l.row.toRowW d [] (fun f vs => PySem.call f vs) := by
  apply Att.attach_call most plain
  intro w s0 s mg mb fa o pm cd doc a vs ns G Y _ _ _ name at_ nums few gens
  obtain ⟨K, fd, sp, kin, bind, good, keeps⟩ := F w mg fa _ Y G.T.g name
  have rel := vals_ints nums
  have len : ns.length ≤ sizeLine := Nat.le_trans few fits
  by_cases own : K.lookup a = none
  · obtain ⟨Hs, here, rest⟩ : ∃ Hs : Hp, Hs a = some (HO.frz { cls := .type "list", data := .seq vs.toArray } (.lst (ns.map V.int))) ∧ ∀ b, b ≠ a → Hs b = none :=
      ⟨fun b => if b = a then some (HO.frz { cls := .type "list", data := .seq vs.toArray } (.lst (ns.map V.int))) else none, if_pos rfl, fun b c => if_neg c⟩
    refine end_at (ns := ns) (H := Hs) (fun b => ?_) kin (fun _ => own) G.T.g G.T.b G.T.builtins G.T.nolimit gens at_ (fun b u z => ?_) room keeps bind (good Hs a ns few (.inl (.inr ⟨_, here⟩))) (calm _ _)
    · by_cases c : b = a
      · exact .inr ⟨c, c ▸ here⟩
      · exact .inl (rest b c)
    · by_cases c : b = a
      · subst c
        cases here.symm.trans z
        exact ⟨at_, by rw [List.length_map]; exact len, vs, _, rel, at_⟩
      · cases (rest b c).symm.trans z
  · obtain ⟨ob, hob⟩ := Option.ne_none_iff_exists'.mp own
    have same := Option.some.inj ((kin a ob hob).symm.trans at_)
    refine end_at (ns := ns) (H := fun _ => none) (fun b => .inl rfl) kin (fun z => absurd rfl z) G.T.g G.T.b G.T.builtins G.T.nolimit gens at_ (fun b u z => nomatch z) room keeps bind (good _ a ns few (.inr ?_)) (calm _ _)
    rw [same] at hob
    exact ⟨_, vs.toArray, _, hob, rfl, rfl, rfl, by rw [List.size_toArray, nums.length]; exact len, by simpa using rel⟩
/-! ### repr of data -/
section
variable {X : Cx}
def rReprD (K : PySem.W.Frag) : List V → Hp → VK → Prop := fun vs H Q => ∃ (a : Addr) (d : PyData), vs = [.ref a] ∧ Dp K H (.ref a) d ∧ d.showable = true ∧ d.hasDict = false ∧ d.depth ≤ 64 ∧ d.shown.length ≤ sizeLine ∧ Q (.str d.shown) H
theorem cr_reprD (quiet : X.A.guards = some []) (hu : X.A.units + 66 < cLine) : CallR X (.builtin "repr") (rReprD X.K) := fun pins s σ H vs us Q I r h => by
  obtain ⟨a, d, rfl, da, shows, plain, deep, short, q⟩ := h
  cases Vals.ref1 r
  obtain ⟨as, rd⟩ := Dp.reads I d _ _ da (show RelV (.ref a) (.ref a) from rfl)
  exact repr_of_reads' rd shows (fun z => by rw [plain] at z; cases z) quiet (by omega) (fun _ _ e => e) (fun h' u tk old => ⟨.str d.shown, H, I.kept old, ⟨_, rfl⟩, q⟩) short
end
theorem un66 {k : Nat} {A : Around} (r : Room k A) : A.units + 66 < cLine := by
  have := r.un
  omega
end UG
/-! own layer: what an exception class of the program's own needs of its built-in base (KeyError too), and what repr tells of a thing -/
namespace UE
open PySem PySem.Spec PySem.W.X PyProof.Rows L2
/-- the built-in classes above a class that stands below KeyError -/
def keTail : List Value := [.type "KeyError", .type "LookupError", .type "Exception", .type "BaseException", .type "object"]
theorem store_key : StoreFacts "KeyError" keTail "object.__setattr__" "object" :=
  ⟨by kernel_rfl, Slot.of (owner := "object") (n := "__setattr__") (by rw [typeLookup_type, builtinLookup_eq_fast]; kernel_rfl) (by decide +kernel) (by decide +kernel) (by decide +kernel) (.inl (by decide +kernel)) (by rw [isSubtype_type]; kernel_rfl), F.store_LookupError.entry, F.store_LookupError.kind, F.store_LookupError.split, by decide +kernel, F.store_LookupError.args, fun self => by kernel_rfl⟩
/-- at C stands a class of the program below KeyError, which is made as LookupError is -/
structure Below (hp : Heap) (C : Addr) : Prop where
  ex : ∃ nm q N bs tl hd sn sub ab col dd k0 k1 k2 k3 k5, hp.get? C = some (excClassObj nm q C N bs tl hd sn sub ab col dd k0 k1 k2 k3 k5 "LookupError.__new__") ∧ ∀ X : String, tl.contains (.type X) = keTail.contains (.type X)
section
variable {M : Model} {A : Around} {E : Value → Shared → Prop} {hp hp' : Heap} {g : Array GenState} {d : Drawn} {t : Nat} {os : OsState} {C e : Addr}
theorem Below.keeps (b : Below hp C) (k : ∀ c o, hp.get? c = some o → hp'.get? c = some o) : Below hp' C := by
  obtain ⟨nm, q, N, bs, tl, hd, sn, sub, ab, col, dd, k0, k1, k2, k3, k5, here, all⟩ := b.ex
  exact ⟨nm, q, N, bs, tl, hd, sn, sub, ab, col, dd, k0, k1, k2, k3, k5, k _ _ here, all⟩
theorem Below.type (b : Below hp C) : Shared.TypeIs ⟨hp, g, d, t, os⟩ (.ref C) "type" := by
  obtain ⟨nm, q, N, bs, tl, hd, sn, sub, ab, col, dd, k0, k1, k2, k3, k5, here, all⟩ := b.ex
  exact ⟨_, here, rfl⟩
/-- whether it stands below a built-in class -/
theorem Below.sub {X : String} {y : Bool} {Q : Bool → Shared → Prop} (b : Below hp C) (hy : keTail.contains (.type X) = y) (q : Q y ⟨hp, g, d, t, os⟩) : wpAny M A (isSubtype (.ref C) (.type X)) Q E ⟨hp, g, d, t, os⟩ := by
  obtain ⟨nm, qn, N, bs, tl, hd, sn, sub, ab, col, dd, k0, k1, k2, k3, k5, here, all⟩ := b.ex
  refine wpAny_isSubtype_exc here ?_
  rwa [List.contains_cons, all, hy, show (Value.type X == Value.ref C) = false from rfl, Bool.false_or]
theorem Below.self {Q : Bool → Shared → Prop} (b : Below hp C) (q : Q true ⟨hp, g, d, t, os⟩) : wpAny M A (isSubtype (.ref C) (.ref C)) Q E ⟨hp, g, d, t, os⟩ := by
  obtain ⟨nm, qn, N, bs, tl, hd, sn, sub, ab, col, dd, k0, k1, k2, k3, k5, here, all⟩ := b.ex
  refine wpAny_isSubtype_exc here ?_
  rwa [List.contains_cons, beq_self_eq_true, Bool.true_or]
theorem Below.by {Q : Option String → Shared → Prop} (b : Below hp C) (q : Q (some "LookupError.__new__") ⟨hp, g, d, t, os⟩) : wpAny M A (Bind.madeBy (.ref C)) Q E ⟨hp, g, d, t, os⟩ := by
  obtain ⟨nm, qn, N, bs, tl, hd, sn, sub, ab, col, dd, k0, k1, k2, k3, k5, here, all⟩ := b.ex
  exact wpAny_madeBy_exc here q
theorem Below.static {Q : Value → Shared → Prop} (b : Below hp C) (q : Q (.ref C) ⟨hp, g, d, t, os⟩) : wpAny M A (Bind.staticBase (.ref C)) Q E ⟨hp, g, d, t, os⟩ := by
  obtain ⟨nm, qn, N, bs, tl, hd, sn, sub, ab, col, dd, k0, k1, k2, k3, k5, here, all⟩ := b.ex
  exact wpAny_staticBase_exc here q
theorem Below.made {id : String} {Q : Unit → Shared → Prop} (b : Below hp C) (same : Manifest.canonical "LookupError.__new__" = Manifest.canonical id) (q : Q () ⟨hp, g, d, t, os⟩) : wpAny M A (Bind.madeHere id (.ref C)) Q E ⟨hp, g, d, t, os⟩ := by
  obtain ⟨nm, qn, N, bs, tl, hd, sn, sub, ab, col, dd, k0, k1, k2, k3, k5, here, all⟩ := b.ex
  exact wpAny_madeHere_exc same here q
end
section
variable {M : Model} {A : Around} {E : Value → Shared → Prop} {hp hp' : Heap} {g : Array GenState} {d : Drawn} {t : Nat} {os : OsState} {C e : Addr}
/-- LookupError.__new__(C, ..) may be called -/
theorem may_new {rest : List Value} {Q : Unit → Shared → Prop} (b : Below hp C) (q : Q () ⟨hp, g, d, t, os⟩) : wpAny M A (checkBuiltinCall "LookupError.__new__" ⟨.ref C :: rest, []⟩) Q E ⟨hp, g, d, t, os⟩ := by
  have L := F.excBase_LookupError
  obtain ⟨nm, qn, N, bs, tl, hd, sn, sub, ab, col, dd, k0, k1, k2, k3, k5, here, _⟩ := id b.ex
  simp only [checkBuiltinCall, L.newKind, L.newSplit, L.newRow]
  repeat (first | with_reducible refine Below.static b ?_ | with_reducible refine Below.by b ?_ | with_reducible refine Below.made b (by decide +kernel) ?_ | with_reducible refine Below.self b ?_ | with_reducible refine Below.sub (y := true) b (by decide +kernel) ?_ | with_reducible refine Below.sub (y := false) b (by decide +kernel) ?_ | with_reducible refine wpAny_loadPart_at here ?_ | wp_step)
  exact q
/-- KeyError.__init__(e, ..) may be called -/
theorem may_init {o : Obj} {rest : List Value} {Q : Unit → Shared → Prop} (b : Below hp C) (he : hp.get? e = some o) (hc : o.cls = .ref C) (q : Q () ⟨hp, g, d, t, os⟩) : wpAny M A (checkBuiltinCall "KeyError.__init__" ⟨.ref e :: rest, []⟩) Q E ⟨hp, g, d, t, os⟩ := by
  have L := excClass_KeyError
  simp only [checkBuiltinCall, L.initKind, L.initSplit, L.initSig]
  refine wpAny_bind (m := isInstance _ _) ?_
  unfold isInstance
  have ty : wpAny M A (typeOf (.ref e)) (fun v s => v = .ref C ∧ s = ⟨hp, g, d, t, os⟩) E ⟨hp, g, d, t, os⟩ := by
    rw [← hc]
    repeat (first | with_reducible refine wpAny_loadPart_at he ?_ | wp_step)
    exact ⟨rfl, rfl⟩
  refine wpAny_bind (wpAny_mono ty ?_ fun _ _ z => z)
  rintro _ _ ⟨rfl, rfl⟩
  refine b.sub (y := true) (by decide +kernel) ?_
  rw [Bool.not_true, if_neg Bool.false_ne_true]
  unfold Bind.checkArgs
  wp_walk
  obtain ⟨nm, qn, N, bs, tl, hd, sn, sub, ab, col, dd, k0, k1, k2, k3, k5, here, _⟩ := id b.ex
  rw [hc]
  repeat (first | with_reducible refine Below.static b ?_ | with_reducible refine Below.by b ?_ | with_reducible refine Below.made b (by decide +kernel) ?_ | with_reducible refine Below.self b ?_ | with_reducible refine Below.sub (y := true) b (by decide +kernel) ?_ | with_reducible refine Below.sub (y := false) b (by decide +kernel) ?_ | with_reducible refine wpAny_loadPart_at here ?_ | wp_step)
  apply wpAny_onRaise
  rw [show ({ pos := Value.ref e :: rest } : Args).kw = [] from rfl, List.map_nil, check_star_args]
  exact wpAny_pure q
end
section
variable {prog : Program} {w : World} {A : Around} {E : Value → Shared → Prop} {R : Result → Shared → Prop} {hp hp' : Heap} {g : Array GenState} {d : Drawn} {t : Nat} {os : OsState} {C e : Addr}
/-- LookupError.__new__(C, ..): the object and the tuple of what is handed in -/
theorem new_key {rest : List Value} (b : Below hp C) (few : rest.length ≤ sizeLine)
    (q : R (.ok (.ret (.ref (hp.objs.size + 1)))) ⟨(hp.push (PySem.W.kdv_tup rest)).push (HandSPX.excO C hp.objs.size), g, d, t, os⟩) : codeAny (model prog w) A (.builtin "LookupError.__new__" ⟨.ref C :: rest, []⟩) R ⟨hp, g, d, t, os⟩ := by
  have L := F.excBase_LookupError
  obtain ⟨nm, qn, N, bs, tl, hd, sn, sub, ab, col, dd, k0, k1, k2, k3, k5, here, _⟩ := id b.ex
  have ends := L.ends
  refine codeAny_builtinAt L.entry ?_
  unfold Builtin.«BaseException.__new__»
  apply PySem.wpAt_bind
  change PySem.wpAt _ _ _ (stack >>= _) _ _ _
  apply PySem.wpAt_bind
  refine PySem.wpAt_stack fun top under => PySem.wpAt_of_wpAny ?_
  wp_walk
  apply PySem.wpAt_of_wpAny
  rw [L.owner]
  repeat (first | with_reducible refine Below.static b ?_ | with_reducible refine Below.by b ?_ | with_reducible refine Below.made b (by decide +kernel) ?_ | with_reducible refine Below.self b ?_ | with_reducible refine Below.sub (y := true) b (by decide +kernel) ?_ | with_reducible refine Below.sub (y := false) b (by decide +kernel) ?_ | with_reducible refine wpAny_loadPart_at here ?_ | wp_step)
  change R _ _
  rwa [Heap.size_push]
/-- KeyError.__init__(e, ..): the arguments are laid anew -/
theorem init_key {t0 : Addr} {rest : List Value} (b : Below hp C) (he : hp.get? e = some (HandSPX.excO C t0)) (few : rest.length ≤ sizeLine)
    (q : ∀ h' t1, (∀ c o, c ≠ e → hp.get? c = some o → h'.get? c = some o) → h'.get? e = some (HandSPX.excO C t1) → R (.ok (.ret .none)) ⟨h', g, d, t, os⟩) : codeAny (model prog w) A (.call (.builtin "KeyError.__init__") ⟨.ref e :: rest, []⟩) R ⟨hp, g, d, t, os⟩ := by
  refine codeAny_call_builtin excClass_KeyError.init.plain excClass_KeyError.initEntry (may_init b he rfl ?_)
  wp_walk
  refine q _ hp.objs.size (fun c o n z => ?_) ?_
  · exact (Heap.get?_update_other _ _ n.symm).trans (Heap.get?_push_of_some _ z)
  · exact Heap.get?_update_self _ (Heap.get?_push_of_some _ he) rfl
/-- C(..), C's own __init__ behind LookupError.__new__ -/
theorem call_key {fI : Addr} {rest : List Value} (b : Below hp C) (look : PySem.W.Looks (model prog w) hp (typeLookup (.ref C) "__init__") (some (.ref fI))) (bind : ∀ self, PySem.W.Looks (model prog w) hp (bindSpecial (.ref fI) self) (.ref fI, [self])) (few : rest.length ≤ sizeLine)
    (q : codeAny (model prog w) (A.under (.builtin "type.__call__" ⟨.ref C :: rest, []⟩)) (.call (.ref fI) ⟨.ref (hp.objs.size + 1) :: rest, []⟩) (PySem.W.InitBack (hp.objs.size + 1) R) ⟨(hp.push (PySem.W.kdv_tup rest)).push (HandSPX.excO C hp.objs.size), g, d, t, os⟩) :
    codeAny (model prog w) A (.call (.ref C) ⟨rest, []⟩) R ⟨hp, g, d, t, os⟩ := by
  obtain ⟨nm, qn, N, bs, tl, hd, sn, sub, ab, col, dd, k0, k1, k2, k3, k5, here, _⟩ := id b.ex
  have ty := Below.type (g := g) (d := d) (t := t) (os := os) b
  have l1 := tc_lookup
  have l2 := tc_bind (.ref C)
  apply codeAny_of_tree
  change wpAny _ _ (callAny (.ref C) _) _ _ _
  repeat (any_goals (first | assumption | with_reducible refine wpAny_loadPart_at here ?_ | wp_step))
  refine ⟨rfl, ?_⟩
  refine codeAny_call_builtin_at (Code.quiet_builtin _ (by decide +kernel)) entry_typeCall (wpAny_check_type_call_sub here ?_)
  change wpAny _ _ (Builtin.«type.__call__» ⟨.ref C :: rest, []⟩) _ _ _
  repeat (first | with_reducible refine Below.static b ?_ | with_reducible refine Below.by b ?_ | with_reducible refine Below.made b (by decide +kernel) ?_ | with_reducible refine Below.self b ?_ | with_reducible refine Below.sub (y := true) b (by decide +kernel) ?_ | with_reducible refine Below.sub (y := false) b (by decide +kernel) ?_ | with_reducible refine wpAny_loadPart_at here ?_ | wp_step)
  refine codeAny_call_builtin_code (Code.quiet_builtin _ F.excBase_LookupError.quiet) (may_new b (new_key b few ?_))
  change wpAny _ _ _ _ _ _
  have old : ∀ c o, hp.get? c = some o → ((hp.push (PySem.W.kdv_tup rest)).push (HandSPX.excO C hp.objs.size)).get? c = some o := fun c o z => Heap.get?_push_of_some _ (Heap.get?_push_of_some _ z)
  have b1 := b.keeps old
  have it : ((hp.push (PySem.W.kdv_tup rest)).push (HandSPX.excO C hp.objs.size)).get? (hp.objs.size + 1) = some (HandSPX.excO C hp.objs.size) := by heap_get
  unfold isInstance
  repeat (first | with_reducible refine wpAny_loadPart_at it ?_ | with_reducible refine Below.self b1 ?_ | wp_step)
  refine (look.keeps old).at (wpAny_holding (wpAny_bind (((bind _).keeps old).at (wpAny_bind (wpAny_call (codeAny_mono q fun r s' z => ?_))))))
  match r, z with
  | .error _, z => exact z
  | .ok (.ret _), z =>
    obtain ⟨rfl, z⟩ := z
    wp_walk
    exact z
end
/-! ### what a built-in class gives to an own class below it -/
/-- how an own class below it is made, and what its __init__ does -/
structure BaseM (newId initId : String) (tail : List Value) : Prop where
  makes : ∀ {prog : Program} {w : World} {A : Around} {R : Result → Shared → Prop} {hp : Heap} {g : Array GenState} {d : Drawn} {t : Nat} {os : OsState} {nm q : Str} {C N fI : Addr} {bs tl : List Value} {hd : Bool} {sn : List Str} {sub : List Value} {ab : Bool} {col : Option Bool} {dd : Option Addr} {k0 k1 k2 k3 k5 : Option Value} {rest : List Value},
    hp.get? C = some (excClassObj nm q C N bs tl hd sn sub ab col dd k0 k1 k2 k3 k5 newId) → (∀ X : String, tl.contains (.type X) = tail.contains (.type X)) → PySem.W.Looks (model prog w) hp (typeLookup (.ref C) "__init__") (some (.ref fI)) →
    (∀ self, PySem.W.Looks (model prog w) hp (bindSpecial (.ref fI) self) (.ref fI, [self])) → rest.length ≤ sizeLine →
    codeAny (model prog w) (A.under (.builtin "type.__call__" ⟨.ref C :: rest, []⟩)) (.call (.ref fI) ⟨.ref (hp.objs.size + 1) :: rest, []⟩) (PySem.W.InitBack (hp.objs.size + 1) R) ⟨(hp.push (PySem.W.kdv_tup rest)).push (HandSPX.excO C hp.objs.size), g, d, t, os⟩ →
    codeAny (model prog w) A (.call (.ref C) ⟨rest, []⟩) R ⟨hp, g, d, t, os⟩
  inits : ∀ {prog : Program} {w : World} {A : Around} {R : Result → Shared → Prop} {hp : Heap} {g : Array GenState} {d : Drawn} {t : Nat} {os : OsState} {nm q : Str} {C N e t0 : Addr} {bs tl : List Value} {hd : Bool} {sn : List Str} {sub : List Value} {ab : Bool} {col : Option Bool} {dd : Option Addr} {k0 k1 k2 k3 k5 : Option Value} {rest : List Value},
    hp.get? C = some (excClassObj nm q C N bs tl hd sn sub ab col dd k0 k1 k2 k3 k5 newId) → (∀ X : String, tl.contains (.type X) = tail.contains (.type X)) → hp.get? e = some (HandSPX.excO C t0) → rest.length ≤ sizeLine →
    (∀ h' t1, (∀ c o, c ≠ e → hp.get? c = some o → h'.get? c = some o) → h'.get? e = some (HandSPX.excO C t1) → R (.ok (.ret .none)) ⟨h', g, d, t, os⟩) → codeAny (model prog w) A (.call (.builtin initId) ⟨.ref e :: rest, []⟩) R ⟨hp, g, d, t, os⟩
theorem BaseM.exc {B newId initId : String} {tail : List Value} (F : ExcBaseFacts B newId initId tail) : BaseM newId initId tail :=
  ⟨fun here all look bind few q => HandSPX.call_own F all here look bind few q, fun here all he few q => HandSPX.init_base F all here he few q⟩
theorem BaseM.key : BaseM "LookupError.__new__" "KeyError.__init__" keTail :=
  ⟨fun here all look bind few q => call_key ⟨_, _, _, _, _, _, _, _, _, _, _, _, _, _, _, _, here, all⟩ look bind few q, fun here all he few q => init_key ⟨_, _, _, _, _, _, _, _, _, _, _, _, _, _, _, _, here, all⟩ he few q⟩
/-! ### what repr tells of a thing: some text, whatever else is being shown -/
/-- what stood stays -/
def Kept (h h' : Heap) : Prop := ∀ c o, h.get? c = some o → h'.get? c = some o
theorem Kept.refl (h : Heap) : Kept h h := fun _ _ z => z
theorem Kept.trans {h h1 h2 : Heap} (a : Kept h h1) (b : Kept h1 h2) : Kept h h2 := fun c o z => b c o (a c o z)
/-- the thing's text, within another one's: at most n signs, at most k more on the stack -/
def Tells (prog : Program) (w : World) (h0 : Heap) (x : Value) (n k : Nat) : Prop := ∀ (ahead : Nat) (A : Around) (E : Value → Shared → Prop) (s : Shared) (Q : Str → Shared → Prop), ahead + n ≤ sizeLine → A.units + k < cLine → Kept h0 s.heap →
  (∀ m h' tk, m.length ≤ n → Kept s.heap h' → Q m { s with heap := h', toks := tk }) → wpAny (model prog w) A (pyReprUnder ahead x) Q E s
inductive TellsAll (prog : Program) (w : World) (h0 : Heap) (k : Nat) : List Value → Nat → Prop
  | nil : TellsAll prog w h0 k [] 0
  | cons {x : Value} {n : Nat} {xs : List Value} {m : Nat} (h : Tells prog w h0 x n k) (t : TellsAll prog w h0 k xs m) : TellsAll prog w h0 k (x :: xs) (n + 2 + m)
section
variable {prog : Program} {w : World} {A : Around} {E : Value → Shared → Prop} {h0 : Heap} {s : Shared}
theorem Tells.more {x : Value} {n n' k k' : Nat} (h : Tells prog w h0 x n k) (hn : n ≤ n') (hk : k ≤ k') : Tells prog w h0 x n' k' :=
  fun ahead A E s Q room units old q => h ahead A E s Q (by omega) (by omega) old fun m h' tk few => q m h' tk (by omega)
/-- a thing whose text is known -/
theorem Tells.known {x : Value} {t : Str} (h : ReprIs prog w x t) (k : Nat) : Tells prog w h0 x t.length k :=
  fun ahead A E s Q room _ _ q => h ahead room A E s Q fun tk => q t s.heap tk (Nat.le_refl _) (Kept.refl _)
/-- a word of its own -/
theorem own_word {tag : String} {word : Str} {post : PySem.Fin → Shared → Prop} (small : word.length ≤ sizeLine) (h : ∀ tk u, post (.done (.ret (.str word u))) { s with toks := tk }) : wpAny (model prog w) A (rule tag >>= fun _ => retStr word) post E s :=
  wpAny_bind (wpAny_rule (wpAny_bind (wpAny_mkStr (wpAny_pure (h _ _)) small)))
/-- a tuple's parts, one behind another -/
theorem parts_told {k : Nat} (units : A.units + k < cLine) : ∀ {xs : List Value} {n : Nat}, TellsAll prog w h0 k xs n → ∀ (got : Array Str) (far : Nat) (s : Shared) (Q : Array Str × Nat → Shared → Prop), far + n ≤ sizeLine → Kept h0 s.heap →
    (∀ more h' tk, piled more ≤ n → more.length = xs.length → Kept s.heap h' → Q (got ++ more.toArray, far + piled more) { s with heap := h', toks := tk }) → wpAny (model prog w) A (forIn xs (got, far) tupBody) Q E s := by
  intro xs n all
  induction all with
  | nil =>
    intro got far s Q _ _ q
    rw [List.forIn_nil]
    have := q [] s.heap s.toks (Nat.le_refl _) rfl (Kept.refl _)
    exact wpAny_pure (by simpa [piled] using this)
  | @cons x n xs m one _ ih =>
    intro got far s Q room old q
    rw [List.forIn_cons]
    refine wpAny_bind ?_
    unfold tupBody
    refine wpAny_bind (one (far + 1) A E s _ (by omega) units old fun t h' tk short keep => wpAny_pure ?_)
    refine ih (got.push t) (far + (t.length + 2)) _ Q (by omega) (old.trans keep) fun more h2 tk2 few len keep2 => ?_
    have := q (t :: more) h2 tk2 (by rw [piled_cons]; omega) (by rw [List.length_cons, List.length_cons, len]) (keep.trans keep2)
    rw [piled_cons] at this
    rw [show got.push t ++ more.toArray = got ++ (t :: more).toArray from by simp, show far + (t.length + 2) + piled more = far + (t.length + 2 + piled more) from by omega]
    exact this
/-- a tuple's text, ahead of which some signs stand -/
theorem tuple_told {a : Addr} {o : Obj} {xs : Array Value} {c n k ahead : Nat} {post : PySem.Fin → Shared → Prop} (units : A.units + k < cLine) (old : Kept h0 s.heap) (here : s.heap.get? a = some o) (data : o.data = .seq xs c) (parts : TellsAll prog w h0 k xs.toList n) (room : ahead + n + 5 ≤ sizeLine)
    (q : ∀ m u h' tk, m.length ≤ n + 5 → Kept s.heap h' → post (.done (.ret (.str m u))) { s with heap := h', toks := tk }) : wpAny (model prog w) A (Builtin.tupleReprAt ahead ⟨[.ref a], []⟩) post E s := by
  rw [tuple_repr_tree, tupleReprUnderWay_eq]
  refine wpAny_bind (wpAny_bind (wpAny_stack_any fun st => wpAny_pure ?_))
  split
  · exact own_word (by decide +kernel) fun tk u => q _ _ _ _ (by have : ("(...)" : Str).length ≤ 5 := by decide +kernel
                                                                 omega) (Kept.refl _)
  · unfold tupleReprRest Builtin.Tuple.tupleItemsOf
    refine wpAny_bind (wpAny_bind (wpAny_seqItems here data (wpAny_pure ?_)))
    rw [← Array.forIn_toList]
    refine wpAny_bind (parts_told units parts #[] ahead s _ (by omega) old fun more h' tk few len keep => ?_)
    have text : (("(" : Str) ++ Str.join ", " (#[] ++ more.toArray : Array Str).toList ++ (if xs.size == 1 then ",)" else ")" : String)) = tupleText more := by
      unfold tupleText
      rw [len, Array.length_toList]
      simp
    have short := fmt_text more
    rw [text]
    exact wpAny_bind (wpAny_mkStr (wpAny_pure (q _ _ _ _ (by omega) keep)) (by omega))
/-- a list's text: its parts are told one way alone -/
theorem list_told {a : Addr} {o : Obj} {xs : List Value} {c ahead : Nat} {ts : List Str} {Q : Value → Shared → Prop} (here : s.heap.get? a = some o) (data : o.data = .seq xs.toArray c) (parts : ReprAll prog w xs ts) (room : ahead + (listText ts).length + 5 ≤ sizeLine)
    (q : ∀ m u h' tk, m.length ≤ (listText ts).length + 5 → Kept s.heap h' → Q (.str m u) { s with heap := h', toks := tk }) :
    wpAny (model prog w) A.in1 (Builtin.listReprAt ahead ⟨[.ref a], []⟩) (fun fin s' => match fin with | .done f => callEnd Q E (.ok f) s' | .again c' => c'.quiet = true ∧ codeAny (model prog w) A c' (callEnd Q E) s') (fun e s' => callEnd Q E (.error e) s') s := by
  have brief : ∀ m : Str, m.length ≤ 5 → ∀ (tk : Nat) (u : Tok), callEnd Q E (.ok (.ret (.str m u))) { s with toks := tk } := fun m few tk u => q m u s.heap tk (by omega) (Kept.refl _)
  have each : ∀ {xs : List Value} {ts : List Str}, ReprAll prog w xs ts → ∀ (i : Nat) (x : Value), xs[i]? = some x → ∃ t, ts[i]? = some t ∧ ReprIs prog w x t := by
    intro xs ts h
    induction h with
    | nil => exact fun i x e => by simp at e
    | cons r _ ih =>
      intro i x e
      cases i with
      | zero =>
        cases e
        exact ⟨_, rfl, r⟩
      | succ i => exact ih i x e
  unfold Builtin.listReprAt
  refine wpAny_bind (m := slotArgs _ _ _) (wpAny_pure (wpAny_bind (m := Builtin.List.listItems _) (wpAny_listItems here data ?_)))
  split
  · exact own_word (by decide +kernel) fun tk u => brief _ (by decide +kernel) _ _
  refine wpAny_bind (wpAny_stack_any fun st => ?_)
  dsimp only
  split
  · exact own_word (by decide +kernel) fun tk u => brief _ (by decide +kernel) _ _
  have lt := Heap.lt_size here
  refine wpAny_bind (m := newList []) (wpAny_newObj_type (wpAny_pure ⟨F.quiet_list_repr_loop _, ?_⟩))
  refine codeAny_list_repr_start (ts := ts) (Nat.ne_of_lt lt) (by rw [parts.length_eq]; rfl) (fun i x e => each parts i x (by rwa [List.getElem?_toArray] at e)) (Heap.get?_push_of_some _ here) data (Heap.get?_push_size _ rfl) (fun h' u tk keep => ?_) (by omega)
  exact q _ u h' tk (Nat.le_add_right _ _) fun c o e => keep c o (Nat.ne_of_lt (Heap.lt_size e)) (Heap.get?_push_of_some _ e)
theorem list_under {a : Addr} {o : Obj} {xs : List Value} {c : Nat} {ts : List Str} (here : h0.get? a = some o) (cls : o.cls = .type "list") (data : o.data = .seq xs.toArray c) (parts : ReprAll prog w xs ts) : Tells prog w h0 (.ref a) ((listText ts).length + 5) 1 := by
  intro ahead A E s Q room units old q
  have ty : s.TypeIs (.ref a) "list" := ⟨o, old _ _ here, cls⟩
  refine wpAny_pyReprUnder_ref (by omega) (wpAny_pyReprObjUnder_twin (twin := "list.__repr__.under") ty F.slot_list_repr.toG rfl (by omega) ?_)
  exact call_twin_plain F.plain_list_repr_under F.entry_list_repr_under F.check_list_repr_under ty F.slot_list_repr.toG (F.args_list_repr_1 _) (list_told (old _ _ here) data parts (by omega) fun m u h' tk few keep => ⟨⟨m, u, rfl⟩, m, u, rfl, q m h' tk few keep⟩)
/-- repr of an object, whose text is told -/
theorem list_repr {a : Addr} {o : Obj} {xs : List Value} {c : Nat} {ts : List Str} {Q : Value → Shared → Prop} (here : s.heap.get? a = some o) (cls : o.cls = .type "list") (data : o.data = .seq xs.toArray c) (parts : ReprAll prog w xs ts) (room : (listText ts).length + 5 ≤ sizeLine)
    (q : ∀ m u h' tk, m.length ≤ (listText ts).length + 5 → Kept s.heap h' → Q (.str m u) { s with heap := h', toks := tk }) : wpAny (model prog w) A (call (.builtin "list.__repr__") [.ref a]) Q E s :=
  wpAny_call (codeAny_call_builtin F.slot_list_repr.plain F.entry_list_repr (F.slot_list_repr.check _ _ _ _ _ _ _ _ ⟨o, here, cls⟩ (F.args_list_repr_1 _) (list_told here data parts (by omega) q)))
theorem tuple_repr {a : Addr} {o : Obj} {xs : Array Value} {c n k : Nat} {Q : Value → Shared → Prop} (units : A.units + (k + 1) < cLine) (here : s.heap.get? a = some o) (cls : o.cls = .type "tuple") (data : o.data = .seq xs c) (parts : TellsAll prog w s.heap k xs.toList n) (room : n + 5 ≤ sizeLine)
    (q : ∀ m u h' tk, m.length ≤ n + 5 → Kept s.heap h' → Q (.str m u) { s with heap := h', toks := tk }) : wpAny (model prog w) A (call (.builtin "tuple.__repr__") [.ref a]) Q E s := by
  refine wpAny_call (codeAny_call_builtin_own (Code.quiet_builtin _ (by decide +kernel)) F.entry_tuple_repr (F.slot_tuple_repr.check _ _ _ _ _ _ _ _ ⟨o, here, cls⟩ (F.args_tuple_repr_1 _) (wpOwn_of_wpAny (tuple_told (k := k) ?_ (Kept.refl _) here data parts (by omega) fun m u h' tk few keep => q m u h' tk few keep))))
  have : (A.under (.builtin "tuple.__repr__" ⟨[.ref a], []⟩)).units ≤ A.units + 1 := by
    simp [Around.under, Code.cUnits, Code.frames, Code.isFrame]
  show (A.under _).units + k < cLine
  omega
theorem tuple_under {a : Addr} {o : Obj} {xs : Array Value} {c n k : Nat} (here : h0.get? a = some o) (cls : o.cls = .type "tuple") (data : o.data = .seq xs c) (parts : TellsAll prog w h0 k xs.toList n) : Tells prog w h0 (.ref a) (n + 5) (k + 1) := by
  intro ahead A E s Q room units old q
  have ty : s.TypeIs (.ref a) "tuple" := ⟨o, old _ _ here, cls⟩
  refine wpAny_pyReprUnder_ref (by omega) (wpAny_pyReprObjUnder_twin (twin := "tuple.__repr__.under") ty F.slot_tuple_repr rfl (by omega) ?_)
  refine call_twin_own (F.quiet_tuple_repr_under _) F.entry_tuple_repr_under F.check_tuple_repr_under ty F.slot_tuple_repr (F.args_tuple_repr_1 _) (wpOwn_of_wpAny (tuple_told (k := k) ?_ old (old _ _ here) data parts (by omega) fun m u h' tk few keep => (show callEnd _ _ _ _ from ⟨⟨m, u, rfl⟩, m, u, rfl, q m h' tk few keep⟩)))
  show (A.under _).units + k < cLine
  have : (A.under (.builtin "tuple.__repr__.under" ⟨[.ref a, rawInt ahead], []⟩)).units ≤ A.units + 1 := by
    simp [Around.under, Code.cUnits, Code.frames, Code.isFrame]
  omega
end
/-! ### any thing that may be shown: a flat one, a list or a tuple of such, a tuple of these -/
inductive Flat : PyData → Nat → Prop
  | non : Flat .none 4
  | bl (b : Bool) : Flat (.bool b) 5
  | int {i : Int} (h : i.natAbs < 10 ^ 60) : Flat (.int i) 61
  | str {x : Str} (h : ∀ c ∈ x.cps.toList, c < 16 ^ 8) : Flat (.str x) (10 * x.length + 2)
inductive Flats : List PyData → Nat → Prop
  | nil : Flats [] 0
  | cons {d : PyData} {n : Nat} {ds : List PyData} {m : Nat} (h : Flat d n) (t : Flats ds m) : Flats (d :: ds) (n + 2 + m)
inductive Low : PyData → Nat → Prop
  | flat {d : PyData} {n : Nat} (h : Flat d n) : Low d n
  | lst {ds : List PyData} {n : Nat} (h : Flats ds n) : Low (.list ds) (n + 10)
inductive Lows : List PyData → Nat → Prop
  | nil : Lows [] 0
  | cons {d : PyData} {n : Nat} {ds : List PyData} {m : Nat} (h : Low d n) (t : Lows ds m) : Lows (d :: ds) (n + 2 + m)
inductive Odd : PyData → Nat → Prop
  | low {d : PyData} {n : Nat} (h : Low d n) : Odd d n
  | tup {ds : List PyData} {n : Nat} (h : Lows ds n) : Odd (.tuple ds) (n + 10)
theorem list_few (ts : List Str) : (listText ts).length ≤ piled ts + 3 := by
  have e : ∀ l : List Str, piled l = (l.map (·.length)).sum + 2 * l.length := by
    intro l
    induction l with
    | nil => rfl
    | cons t l ih =>
      rw [piled_cons, ih, List.map_cons, List.sum_cons, List.length_cons]
      omega
  have := listText_len_le ts
  have := e ts
  omega
theorem log_few {n : Nat} (h : n < 10 ^ 60) : n.log2 < 1920 := by
  by_cases z : n = 0
  · rw [z]
    decide
  · exact (Nat.log2_lt z).mpr (Nat.lt_trans h (by decide +kernel))
theorem Flats.lows {ds : List PyData} {n : Nat} (h : Flats ds n) : Lows ds n := by
  induction h with
  | nil => exact .nil
  | cons a _ ih => exact .cons (.flat a) ih
section
variable {X : Cx} {pins : List (Addr × Obj)} {σ : L2.St} {H : Hp} {s : Shared}
theorem flat_text {d : PyData} {n : Nat} (h : Flat d n) (few : n ≤ sizeLine) {v : V} {u : Value} (hd : Dp X.K H v d) (r : RelV v u) : ∃ t : Str, t.length ≤ n ∧ ReprIs X.prog X.w u t := by
  cases h with
  | non =>
    cases hd
    cases r
    exact ⟨_, by decide +kernel, .none⟩
  | bl b =>
    cases hd
    cases r
    exact ⟨_, by cases b <;> decide +kernel, .bool b⟩
  | int h =>
    cases hd
    obtain ⟨t, rfl⟩ := r
    have len := int_text_length_le10 (k := 60) (by decide) h
    exact ⟨_, by rw [PySem.ofString_length]; omega, .int t (log_few h)⟩
  | @str x h =>
    cases hd
    obtain ⟨t, rfl⟩ := r
    have len := StrLaws.reprText_len x h
    exact ⟨_, by omega, .str x t (by omega)⟩
theorem flats_text {ds : List PyData} {n : Nat} (h : Flats ds n) (few : n ≤ sizeLine) : ∀ {vs : List V} {us : List Value}, DpAll X.K H vs ds → Vals vs us → ∃ ts : List Str, piled ts ≤ n ∧ ReprAll X.prog X.w us ts := by
  induction h with
  | nil =>
    intro vs us hd r
    cases hd
    cases r
    exact ⟨[], Nat.le_refl _, .nil⟩
  | cons a _ ih =>
    intro vs us hd r
    cases hd with
    | cons d1 d2 =>
      cases r with
      | cons r1 r2 =>
        obtain ⟨t, lt, ht⟩ := flat_text a (by omega) d1 r1
        obtain ⟨ts, lts, hts⟩ := ih (by omega) d2 r2
        exact ⟨t :: ts, by rw [piled_cons]; omega, .cons ht hts⟩
theorem low_tells {d : PyData} {n : Nat} (h : Low d n) (few : n ≤ sizeLine) (I : Inv X pins σ H s) {v : V} {u : Value} (hd : Dp X.K H v d) (r : RelV v u) : Tells X.prog X.w s.heap u n 1 := by
  cases h with
  | flat h =>
    obtain ⟨t, lt, ht⟩ := flat_text h few hd r
    exact (Tells.known ht 1).more lt (Nat.le_refl _)
  | lst h =>
    cases hd with
    | lst sq all =>
      cases r
      obtain ⟨its, rel, ⟨o, c, here, cls, _, data⟩, _⟩ := I.list sq
      obtain ⟨ts, lt, ht⟩ := flats_text h (by omega) all rel
      have := list_few ts
      exact (list_under here cls data ht).more (by omega) (Nat.le_refl _)
theorem lows_tell {ds : List PyData} {n : Nat} (h : Lows ds n) (few : n ≤ sizeLine) (I : Inv X pins σ H s) : ∀ {vs : List V} {us : List Value}, DpAll X.K H vs ds → Vals vs us → TellsAll X.prog X.w s.heap 1 us n := by
  induction h with
  | nil =>
    intro vs us hd r
    cases hd
    cases r
    exact .nil
  | cons a _ ih =>
    intro vs us hd r
    cases hd with
    | cons d1 d2 =>
      cases r with
      | cons r1 r2 => exact .cons (low_tells a (by omega) I d1 r1) (ih (by omega) d2 r2)
/-- {x!r}, x any thing that may be shown: some text -/
def tFmtO (K : PySem.W.Frag) (te : TE) : TE := fun σ H Q => te σ H fun x H1 => ∃ (d : PyData) (n : Nat), Dp K H1 x d ∧ Odd d n ∧ n ≤ 1000000 ∧ ∀ m : Str, m.length ≤ n + 10 → Q (.str m) H1
theorem pe_fmtO {e : Expr} {te : TE} {pos : Pos} {k : Nat} (hr : Room k X.A) (he : PE X e te) : PE X (.FormattedValue e 114 none pos) (tFmtO X.K te) := ⟨fun pins s σ H Q I h => by
  refine wpAny_FormattedValue_repr (thn (he.run pins s σ H _ I h) ?_)
  rintro u s1 ⟨v, H1, I1, r1, d, n, hd, odd, few, q⟩
  have units := hr.units
  have line : n + 100 ≤ sizeLine := by rw [sizeLine_eq]; omega
  have fin : ∀ (m : Str) (t : Tok) (h' : Heap) (tk : Nat), m.length ≤ n + 10 → Kept s1.heap h' → wpAny (model X.prog X.w) X.A (formatField (.str m t) Str.empty) (fun v s' => ∃ y H', Inv X pins σ H' s' ∧ RelV y v ∧ Q y H') X.xe { s1 with heap := h', toks := tk } := fun m t h' tk le keep =>
    wpAny_formatField_str ⟨.str m, H1, I1.kept keep, ⟨_, rfl⟩, q m le⟩ ⟨.str m, H1, I1.kept keep, ⟨_, rfl⟩, q m le⟩ (by omega)
  cases odd with
  | low low =>
    cases low with
    | flat fl =>
      cases fl with
      | non =>
        cases hd
        cases r1
        exact pyReprObj_none (fin _ _ s1.heap _ (by decide +kernel) (Kept.refl _))
      | bl b =>
        cases hd
        cases r1
        exact pyReprObj_bool (fin _ _ s1.heap _ (by cases b <;> decide +kernel) (Kept.refl _))
      | int h =>
        cases hd
        obtain ⟨t, rfl⟩ := r1
        have len := int_text_length_le10 (k := 60) (by decide) h
        exact pyReprObj_int (log_few h) (fin _ _ s1.heap _ (by rw [PySem.ofString_length]; omega) (Kept.refl _))
      | @str x h =>
        cases hd
        obtain ⟨t, rfl⟩ := r1
        have len := StrLaws.reprText_len x h
        exact pyReprObj_str (fin _ _ s1.heap _ (by omega) (Kept.refl _)) (by omega)
    | lst h =>
      cases hd with
      | lst sq all =>
        cases r1
        obtain ⟨its, rel, ⟨o, c, here, cls, _, data⟩, _⟩ := I1.list sq
        obtain ⟨ts, lt, ht⟩ := flats_text h (by omega) all rel
        have := list_few ts
        exact wpAny_pyReprObj_slot (by omega) ⟨o, here, cls⟩ F.slot_list_repr.toG (list_repr here cls data ht (by omega) fun m u h' tk le keep => ⟨m, u, rfl, fin m u h' tk (by omega) keep⟩)
  | tup h =>
    cases hd with
    | tup sq all =>
      cases r1
      obtain ⟨its, rel, ⟨o, here, cls, c, data⟩, _⟩ := I1.tuple sq
      have parts := lows_tell h (by omega) I1 all rel
      exact wpAny_pyReprObj_slot (by omega) ⟨o, here, cls⟩ F.slot_tuple_repr (tuple_repr (k := 1) (by omega) here cls data parts (by omega) fun m u h' tk le keep => ⟨m, u, rfl, fin m u h' tk (by omega) keep⟩)⟩
end
/-! ### a list of texts in a message -/
section
variable {X : Cx}
/-- {xs}, xs a list of texts: some text, not too long -/
def tFmtL (K : PySem.W.Frag) (te : TE) : TE := fun σ H Q => te σ H fun x H1 => ∃ (a : Addr) (l : List Str), x = .ref a ∧ SqL K H1 a (l.map V.str) ∧ (∀ y ∈ l, ∀ c ∈ y.cps.toList, c < 16 ^ 8) ∧ fmtCost l + 8 ≤ sizeLine ∧ ∀ m : Str, m.length ≤ fmtCost l + 8 → Q (.str m) H1
theorem pe_fmtL {e : Expr} {te : TE} {pos : Pos} {k : Nat} (hr : Room k X.A) (he : PE X e te) : PE X (.FormattedValue e (-1) none pos) (tFmtL X.K te) := ⟨fun pins s σ H Q I h => by
  refine wpAny_FormattedValue_plain (thn (he.run pins s σ H _ I h) ?_)
  rintro u s1 ⟨v, H1, I1, r1, a, l, rfl, sq, signs, room, q⟩
  cases r1
  obtain ⟨its, rel, ⟨o, c, here, cls, _, data⟩, _⟩ := I1.list sq
  have units := hr.units
  have cost := fmt_piled l signs
  have text := list_few (l.map reprText)
  have parts : ReprAll X.prog X.w its (l.map reprText) := repr_all rel fun y hy => by
    have := fmtCost_mem hy
    have := StrLaws.reprText_len y (signs y hy)
    omega
  refine wpAny_formatField_slot (fun _ _ => nofun) (by omega) ⟨o, here, cls⟩ F.slot_list_format F.slot_list_str F.slot_list_repr.toG ?_
  exact list_repr (s := { s1 with toks := s1.toks + 1 }) here cls data parts (by omega) fun m u h' tk le keep => ⟨m, u, rfl, .str m, H1, I1.kept keep, ⟨_, rfl⟩, q m (by omega)⟩⟩
end
end UE
/-! own layer: refusals of own classes over any built-in base, made by their own __init__ -/
namespace UX
open PySem PySem.Spec PyProof.Rows L2 Builtin Builtin.ObjectAttr
/-- what the written part says of an own exception class C over the built-in class B -/
structure OwnX (K : PySem.W.Frag) (C : Addr) (B newId initId : String) (bmB : List Value) : Prop where
  base : UE.BaseM newId initId bmB
  store : StoreFacts B bmB "object.__setattr__" "object"
  form : PySem.W.excInitIn K C bmB newId = true
  over : PySem.W.excOver K C bmB = true
  dict : PySem.W.hasDictIn K C = true
  sa : PySem.W.findIn K (.ref C) "__setattr__" = some (some (.builtin "object.__setattr__"))
  exC : PySem.W.subIn K (.ref C) (.type "BaseException") = some true
  tyC : PySem.W.typeIn K (.ref C) = some (.type "type")
  kC : PySem.W.keepIn K (.ref C) = true
section
variable {X : Cx} {pins : List (Addr × Obj)} {σ : L2.St} {H : Hp} {s : Shared} {a C : Addr} {f : Str} {y : V} {u : Value} {A : Around} {B newId initId : String} {bmB : List Value}
/-- the first field of an exception that is being made: its dict is laid -/
theorem field1 {Q : Unit → Shared → Prop} {E : Value → Shared → Prop} (T : OwnX X.K C B newId initId bmB) (I : Inv X pins σ H s) (tracked : H a = some (exo a C none)) (free : PySem.W.findIn X.K (.ref C) f = some none) (rel : RelV y u)
    (done : ∀ dx s', H dx = none → dx ≠ a → Inv X pins σ (upd (upd H a (exo a C (some dx))) dx (exd dx [(f, y)])) s' → Q () s') : wpAny (model X.prog X.w) A (setAttr (.ref a) f u) Q E s := by
  obtain ⟨t1, here⟩ := exo_at I.hok tracked
  obtain ⟨cd, hcd, hasD⟩ := PySem.W.any_some T.dict
  obtain ⟨hp, g, d, t, os⟩ := s
  have inst : PySem.W.InstAt hp a { cls := .ref C, dict := none, data := .fields #[.ref t1, .none, .none, .none, .bool false, .none] } C none := ⟨here, rfl, rfl, trivial⟩
  have look : PySem.W.Looks (model X.prog X.w) hp (classData C) cd := PySem.W.looks_clsIn I.kIn hcd
  have apart : a ≠ hp.objs.size := Nat.ne_of_lt (Heap.lt_size here)
  refine PySem.W.set_plain I.kIn inst T.sa (PySem.W.osa_openX (r := none) T.store I.kIn inst T.over (by unfold PySem.W.takerIn; rw [free]; rfl) fun b => ?_)
  show wpAny _ _ (storeInOwnDict _ _ _ _ _ _) _ _ _
  have last : ∀ h' tk', h'.Ns1 hp.objs.size (fun z => if z = f then some u else none) → (∀ b o, b ≠ a → hp.get? b = some o → h'.get? b = some o) →
      h'.get? a = some { cls := .ref C, dict := some hp.objs.size, data := .fields #[.ref t1, .none, .none, .none, .bool false, .none] } → Q () ⟨h', g, d, tk', os⟩ := by
    intro h' tk' ns kept now
    obtain ⟨G, same, gone⟩ := restrict h' fun b => decide (b ≠ hp.objs.size)
    have sub : ∀ b o, G.get? b = some o → h'.get? b = some o := fun b o e => by
      by_cases c : b = hp.objs.size
      · rw [c, gone _ (by simp)] at e
        cases e
      · rwa [same b (decide_eq_true c)] at e
    have nowG := (same a (decide_eq_true apart)).trans now
    have J := I.write (t' := tk') (x := a) (e := a) (o := exo a C (some hp.objs.size)) (by rw [tracked]; trivial) (.inl rfl) (fun b o n e => (same b (decide_eq_true (Nat.ne_of_lt (Heap.lt_size e)))).trans (kept b o n e)) ⟨_, nowG⟩ (exo_ok nowG)
    have fresh : H hp.objs.size = none := I.hok.fresh (Nat.le_refl _)
    exact done _ _ fresh apart.symm (J.laidN (t' := tk') sub (gone _ (by simp)) (by rw [upd_ne apart.symm]; exact fresh) (exd_ok ns (relO_put (fs := []) rel fun _ => trivial)))
  obtain ⟨nm, bs, mro, ns, qn, hd, sn, sb, ab, col, del⟩ := cd
  dsimp only at hasD
  subst hasD
  unfold storeInOwnDict ownDictForStores
  repeat (first | with_reducible refine HandSPX.store_in_new ?_ ?_ | with_reducible refine wpAny_loadPart_at here ?_ | with_reducible refine look.at ?_ | wp_step)
  · exact ⟨_, #[], _, (Heap.get?_update_ne _ _ _ _ apart.symm).trans (Heap.get?_push_at rfl rfl), rfl, (fun _ z => nomatch z), fun _ => rfl⟩
  · intro h' tk' ns' rest
    refine last h' tk' ns' (fun b o n e => ?_) ?_
    · rw [rest.2 b (Nat.ne_of_lt (Heap.lt_size e)), Heap.get?_update_ne _ _ _ _ n]
      exact Heap.get?_push_of_some _ e
    · rw [rest.2 a apart]
      exact Heap.get?_update_self _ (Heap.get?_push_of_some _ here) rfl
/-- a further field of an exception that is being made -/
theorem field2 {Q : Unit → Shared → Prop} {E : Value → Shared → Prop} {dx : Addr} {fs : List (Str × V)} (T : OwnX X.K C B newId initId bmB) (I : Inv X pins σ H s) (tracked : H a = some (exo a C (some dx))) (held : H dx = some (exd dx fs)) (few : fs.length ≤ 900) (free : PySem.W.findIn X.K (.ref C) f = some none) (rel : RelV y u)
    (done : ∀ s', Inv X pins σ (upd H dx (exd dx ((f, y) :: fs))) s' → Q () s') : wpAny (model X.prog X.w) A (setAttr (.ref a) f u) Q E s := by
  obtain ⟨t1, here⟩ := exo_at I.hok tracked
  obtain ⟨mA, ns, rels⟩ := exd_at I.hok held
  have within := within_of rels
  obtain ⟨cd, hcd, hasD⟩ := PySem.W.any_some T.dict
  obtain ⟨hp, g, d, t, os⟩ := s
  obtain ⟨oD, _, _, hoD, _, _⟩ := ns.count within
  have inst : PySem.W.InstAt hp a { cls := .ref C, dict := some dx, data := .fields #[.ref t1, .none, .none, .none, .bool false, .none] } C (some oD) := ⟨here, rfl, rfl, hoD⟩
  have look : PySem.W.Looks (model X.prog X.w) hp (classData C) cd := PySem.W.looks_clsIn I.kIn hcd
  refine PySem.W.set_plain I.kIn inst T.sa (PySem.W.osa_openX (r := none) T.store I.kIn inst T.over (by unfold PySem.W.takerIn; rw [free]; rfl) fun b => ?_)
  show wpAny _ _ (storeInOwnDict _ _ _ _ _ _) _ _ _
  obtain ⟨nm, bs, mro, nss, qn, hd, sn, sb, ab, col, del⟩ := cd
  dsimp only at hasD
  subst hasD
  unfold storeInOwnDict ownDictForStores
  have low : (fs.map (·.1)).length ≤ 1000 := by
    rw [List.length_map]
    omega
  repeat (first | with_reducible refine PySem.OEX.store_in_old ns within low ?_ | with_reducible refine wpAny_loadPart_at here ?_ | with_reducible refine look.at ?_ | wp_step)
  intro h' tk' ns' only
  have there : ∃ o, h'.get? dx = some o := by
    obtain ⟨o, _, _, e, _⟩ := ns'
    exact ⟨o, e⟩
  exact done _ (I.write (t' := tk') (x := dx) (e := dx) (by rw [held]; trivial) (.inl rfl) (fun b o n e => (only.2 b n).trans e) there (exd_ok ns' (relO_put rel rels)))
/-- B.__init__(self, ..): the arguments alone are laid -/
theorem init1 {us : List Value} {Q : Value → Shared → Prop} {E : Value → Shared → Prop} (T : OwnX X.K C B newId initId bmB) (I : Inv X pins σ H s) (tracked : H a = some (exo a C none)) (few : us.length ≤ sizeLine)
    (done : ∀ s', Inv X pins σ H s' → Q .none s') : wpAny (model X.prog X.w) A (call (.builtin initId) (.ref a :: us)) Q E s := by
  obtain ⟨_, _, _, _, _, _, _, _, _, _, _, _, _, _, _, _, cls, tail⟩ := PySem.W.excInit_of I.kIn T.form
  obtain ⟨_, here⟩ := exo_at I.hok tracked
  obtain ⟨hp, g, d, t, os⟩ := s
  refine wpAny_call (T.base.inits cls tail here few fun h' _ kept now => done _ ?_)
  have J := I.write (t' := t) (x := a) (e := a) (o := exo a C none) (by rw [tracked]; trivial) (.inl rfl) kept ⟨_, now⟩ (exo_ok now)
  have same : upd H a (exo a C none) = H := funext fun b => by
    by_cases c : b = a
    · rw [c, upd_same, tracked]
    · exact upd_ne c
  rwa [same] at J
end
/-- a call o.name(..), read as the method that is got and then called -/
def Reads (X : Cx) (o : Expr) (name : Str) (at_ : Pos) (es : List Expr) (ks : List Keyword) (pos : Pos) (pl : Sem Bool) : Prop := ∀ {Q : Value → Shared → Prop} {E : Value → Shared → Prop} {s : Shared},
  wpAny (model X.prog X.w) X.A (eval o X.env) (fun self s1 => wpAny (model X.prog X.w) X.A (getMethod self name pl) (fun m s2 => wpAny (model X.prog X.w) X.A (callWith pos m.1 m.2 (backTo pos (starEach es X.env)) (backToKw pos (keywordEach ks X.env))) Q E s2) E s1) E s →
    wpAny (model X.prog X.w) X.A (eval (.Call (.Attribute o name at_) es ks pos) X.env) Q E s
/-! ### readings -/
/-- B.__init__(self, ..) -/
def tInit (K : PySem.W.Frag) (B newId initId : String) (bmB : List Value) (ta : TA) : TE := fun σ H Q => ta σ H fun vs H1 => ∃ (a C : Addr) (ws : List V), vs = .ref a :: ws ∧ ws.length ≤ 1000 ∧ OwnX K C B newId initId bmB ∧ H1 a = some (exo a C none) ∧ Q .non H1
/-- self.f = e, the first field -/
def tFld1 (K : PySem.W.Frag) (B newId initId : String) (bmB : List Value) (f : Str) (to te : TE) : TS := fun D σ H => te σ H fun y H1 => to σ H1 fun x H2 => ∃ a C : Addr, x = .ref a ∧ OwnX K C B newId initId bmB ∧ PySem.W.findIn K (.ref C) f = some none ∧ H2 a = some (exo a C none) ∧
  ∀ dx, H2 dx = none → dx ≠ a → D.nx σ (upd (upd H2 a (exo a C (some dx))) dx (exd dx [(f, y)]))
/-- self.f = e, a further field -/
def tFld2 (K : PySem.W.Frag) (B newId initId : String) (bmB : List Value) (f : Str) (to te : TE) : TS := fun D σ H => te σ H fun y H1 => to σ H1 fun x H2 => ∃ (a C dx : Addr) (fs : List (Str × V)), x = .ref a ∧ OwnX K C B newId initId bmB ∧ PySem.W.findIn K (.ref C) f = some none ∧ H2 a = some (exo a C (some dx)) ∧ H2 dx = some (exd dx fs) ∧ fs.length ≤ 900 ∧
  D.nx σ (upd H2 dx (exd dx ((f, y) :: fs)))
/-- C(e, ..), whose own __init__ keeps sp -/
def tOwn (C : Addr) (sp : Sp) (ta : TA) : L2.St → Hp → XK → Prop := fun σ H Q => ta σ H fun vs H1 => vs.length ≤ 1000 ∧ ∀ a, H1 a = none → sp (.ref a :: vs) (upd H1 a (exo a C none))
  (fun v H2 => v = .non ∧ ∃ (d : Addr) (fs : List (Str × V)), H2 a = some (exo a C (some d)) ∧ H2 d = some (exd d fs) ∧ H1 d = none ∧ Q (.ref C) (some d) (upd (del H2 a) d (.xd fs))) (fun _ _ _ => False)
section
variable {X : Cx} {o e : Expr} {es : List Expr} {to te : TE} {ta : TA} {f x : Str} {p p' p1 p2 pos : Pos} {B newId initId : String} {bmB : List Value} {Bs : Str}
theorem pe_init {pl : Sem Bool} (hB : bootBuiltins Bs = some (.type B)) (ty : typeOf (.type B) = pure (.type "type")) (stub : Manifest.isStub B = false) (nb : (Bs == ("__debug__" : Str)) = false) (nn : Bs ≠ "__name__") (hg : Gl X Bs) (hm : X.mg Bs = none) (at_ : PySem.W.findCls X.K (.type B) (.type "type") "__init__" = some (.val (.builtin initId))) (hi : PySem.W.handedIn (.builtin initId) = true) (ha : PA X (e :: es) ta)
    (hc : Reads X (.Name Bs p1) "__init__" p2 (e :: es) [] pos pl := by intro _ _ _ h; exact PySem.W.methodCall_KW h)
    (he : starEach (e :: es) X.env = (false, eval e X.env) :: starEach es X.env := by rfl) (hpl : (backTo pos (starEach es X.env)).any (·.1) = false := by rfl) :
    PE X (.Call (.Attribute (.Name Bs p1) "__init__" p2) (e :: es) [] pos) (tInit X.K B newId initId bmB ta) := ⟨fun pins s σ H Q I h => by
  refine hc (ld_blt I hg hm hB ?_ nn nb)
  obtain ⟨m, fr⟩ := I.fr
  refine PySem.W.method_type fr I.ok.mod.kin ty stub at_ hi (PyProof.Rows.callWith_method1 (thn (ha.run pos pins _ σ H _ (I.tok _) h) ?_) he hpl)
  rintro us s1 ⟨_, H1, I1, rel, a, C, ws, rfl, few, T, here, q⟩
  cases rel with
  | cons ra rest =>
    cases ra
    exact init1 T I1 here (by rw [← Paired.length rest, sizeLine_eq]; omega) fun s' J => ⟨.non, H1, J, rfl, q⟩⟩
theorem ps_fld1 (ho : PE X o to) (he : PE X e te) (hs : swapsWith e (some (.Attribute o f p')) pos.line X.env = pure false := by rfl) : PS X (.Assign [.Attribute o f p'] e pos) (tFld1 X.K B newId initId bmB f to te) := ⟨fun pins s σ H D I h => by
  refine plainObj_wpAny_Assign_Attribute (thn (he.run pins s σ H _ I h) ?_) hs
  rintro v s1 ⟨y, H1, I1, r1, q1⟩
  refine thn (ho.run pins s1 σ H1 _ I1 q1) ?_
  rintro _ s2 ⟨_, H2, I2, rx, a, C, rfl, T, free, here, q⟩
  cases rx
  exact field1 T I2 here free r1 fun dx s' n ne J => ⟨σ, _, J, q dx n ne⟩⟩
theorem ps_fld2 (ho : PE X o to) (he : PE X e te) (hs : swapsWith e (some (.Attribute o f p')) pos.line X.env = pure false := by rfl) : PS X (.Assign [.Attribute o f p'] e pos) (tFld2 X.K B newId initId bmB f to te) := ⟨fun pins s σ H D I h => by
  refine plainObj_wpAny_Assign_Attribute (thn (he.run pins s σ H _ I h) ?_) hs
  rintro v s1 ⟨y, H1, I1, r1, q1⟩
  refine thn (ho.run pins s1 σ H1 _ I1 q1) ?_
  rintro _ s2 ⟨_, H2, I2, rx, a, C, dx, fs, rfl, T, free, here, held, few, q⟩
  cases rx
  exact field2 T I2 here held few free r1 fun s' J => ⟨σ, _, J, q⟩⟩
theorem pm_own {CX : CXT} {C fI : Addr} {k : Nat} {fd : FuncData} {ps : List Str} {sp : Sp} (T : OwnX X.K C B newId initId bmB) (at_ : PySem.W.findIn X.K (.ref C) "__init__" = some (some (.ref fI))) (tI : PySem.W.typeIn X.K (.ref fI) = some (.type "function"))
    (F1 : FnOk X.prog X.w X.K X.mg X.base CX k fI fd ps sp) (hr : Room (k + 1) X.A) (hb : Binds X.K fd ps []) (hx : Passes CX X (fun _ _ _ => False)) (hg : Gl X x) (hm : X.mg x = some (.ref C)) (ha : PA X (e :: es) ta)
    (hdb : (x == ("__debug__" : Str)) = false := by decide) (he : starEach (e :: es) X.env = (false, eval e X.env) :: starEach es X.env := by rfl) (hpl : (backTo pos (starEach es X.env)).any (·.1) = false := by rfl) :
    L2N.PMk X (.Call (.Name x p) (e :: es) [] pos) (tOwn C sp ta) := by
  intro pins s σ H Q I h
  refine wpAny_Call_Name_kw (ld_glob I hg hm (PySem.W.callWith_K (h₀ := X.base) I.ok.mod.kin T.kC (thn (ha.run pos pins s σ H _ I h) ?_) he hpl) hdb)
  rintro us ⟨hp, g, dr, tk, os⟩ ⟨vs, H1, I1, rel, few, q⟩
  refine ⟨I1.kIn, ?_⟩
  show wpAny _ _ (call (.ref C) us) _ _ _
  obtain ⟨_, _, _, _, _, _, _, _, _, _, _, _, _, _, _, _, cls, tail⟩ := PySem.W.excInit_of I1.kIn T.form
  have good := q (hp.objs.size + 1) (I1.hok.fresh (Nat.le_succ _))
  have old : ∀ b o, hp.get? b = some o → ((hp.push (PySem.W.kdv_tup us)).push (HandSPX.excO C hp.objs.size)).get? b = some o := fun b o z => Heap.get?_push_of_some _ (Heap.get?_push_of_some _ z)
  have J := I1.laid (t' := tk) (a := hp.objs.size + 1) (o := exo (hp.objs.size + 1) C none) (h' := (hp.push (PySem.W.kdv_tup us)).push (HandSPX.excO C hp.objs.size)) old (Nat.le_succ _) (exo_ok (by heap_get))
  have all : Vals (V.ref (hp.objs.size + 1) :: vs) (Value.ref (hp.objs.size + 1) :: us) := .cons rfl rel
  have count : (Value.ref (hp.objs.size + 1) :: us).length = ps.length := all.length.symm.trans (F1.len _ _ _ _ good)
  have bound := hb _ (Value.ref (hp.objs.size + 1) :: us) J.kIn (by rw [List.append_nil]; exact count)
  rw [List.append_nil] at bound
  refine wpAny_call (T.base.makes cls tail (PySem.W.looks_findIn I1.kIn at_) (fun self => PySem.W.bind_fn I1.kIn self tI) (by rw [← Paired.length rel, sizeLine_eq]; omega)
    (codeAny_mono (F1.run _ X.stack _ _ ⟨Value.ref (hp.objs.size + 1) :: us, []⟩ (Value.ref (hp.objs.size + 1) :: us) _ _ (fun _ _ _ => False) (hr.make C us []) (J.env0.make C us []) bound all good) ?_))
  rintro (er | _ | _ | _ | v) s' out
  · exact hx pins σ _ _ er s' J out
  · exact False.elim out
  · exact False.elim out
  · exact False.elim out
  obtain ⟨_, H2, os2, bare2, un2, hok2, rv, rfl, d, fs, ea, ed, new, q2⟩ := out
  obtain ⟨h2, g2, d2, t2, os'⟩ := s'
  obtain ⟨t0, G, I3, sub, gone, there, na⟩ := mk_end0 (d2 := d2) (t2 := t2) I1 (Nat.le_succ _) old un2 hok2 os2 bare2 ea ed new
  exact ⟨rv, hp.objs.size + 1, _, _, ⟨G, g2, d2, t2, os'⟩, _, .ref C, some d, rfl, I3, sub, gone, there, ⟨rfl, rfl, fun vs z => by cases z; rfl⟩, rfl, rfl, na, rfl, bare2, raises_own T.exC T.tyC, q2⟩
end
/-! ### count of flat items -/
section
variable {X : Cx}
def rCntF (K : PySem.W.Frag) : V → List V → Hp → VK → Prop := fun x xs H Q => ∃ (a : Addr) (ys : List V) (y : V), x = .ref a ∧ xs = [y] ∧ SqL K H a ys ∧ flatV y = true ∧ ys.all flatV = true ∧ Q (.int (ys.countP fun z => eqV z y : Nat)) H
theorem countP_rel {y : V} : ∀ {ys : List V} {its : List Value}, Vals ys its → ys.all flatV = true → its.countP (eqU y) = ys.countP fun z => eqV z y
  | _, _, .nil, _ => rfl
  | z :: ys, u :: its, .cons r rest, flat => by
    have two := Bool.and_eq_true_iff.mp (show (flatV z && ys.all flatV) = true from flat)
    rw [List.countP_cons, List.countP_cons, countP_rel rest two.2, eqU_of r two.1]
theorem mt_cntF : MtR X "list.count" (rCntF X.K) := fun pins s σ H x xs v us Q I rx rxs h => by
  obtain ⟨a, ys, y, rfl, rfl, seq, fy, fys, q⟩ := h
  cases rx
  obtain ⟨u, rfl, ru⟩ := rxs.one
  obtain ⟨its, rel, ⟨⟨cls, dd, data, sl⟩, n, there, hc, _, hd⟩, _⟩ := I.list seq
  simp only at hc hd
  subst hc hd
  refine call_meets PySem.F.slot_list_count ⟨_, there, rfl⟩ PySem.F.entry_list_count (PySem.F.args_list_count_2 _ _) (SeqAt.list_countAt a its.toArray n dd sl u (eqU y)) ⟨there, fun z hz => mem_eqAt ru fy rel fys z (by simpa using hz), .int (ys.countP fun z => eqV z y : Nat), H, I.tok _, ⟨s.toks, ?_⟩, q⟩
  show Value.int ((its.toArray.toList.countP (eqU y) : Nat) : Int) s.toks = _
  rw [show its.toArray.toList = its from rfl, countP_rel rel fys]
end
/-! ### a def that is called with the exception that is handled -/
/-- what it keeps: its promise knows the exception's object -/
structure FnK (P : Program) (w : World) (K : PySem.W.Frag) (mg : Str → Option Value) (base : Heap) (CX : CXT) (k : Nat) (f : Addr) (fd : FuncData) (ps : List Str) (sp : Addr → Value → Option Addr → Sp) : Prop where
  count : ∀ a cls d vs H Q E, sp a cls d vs H Q E → vs.length = ps.length
  goes : ∀ (A : Around) (outer : List Env) (s : Shared) (H : Hp) (args : Args) (us : List Value) (vs : List V) (Q : VK) (E : XK) (p : Addr × Obj), L2H.RoomH k A → L2H.Hot1 A p → L2H.PinOk outer H s p → Env0 P w K mg base A outer s H →
    BindsTo s fd args (ps.zip us) → Vals vs us → sp p.1 p.2.cls p.2.dict vs H Q E → codeAny (model P w) A (.call (.ref f) args) (CR CX outer P w H s Q E) s
section
variable {P : Program} {w : World} {K : PySem.W.Frag} {mg : Str → Option Value} {base : Heap} {CX : CXT} {k : Nat} {f : Addr} {fd : FuncData} {N ps : List Str} {sp : Addr → Value → Option Addr → Sp} {x qual : Str} {params : Arguments} {body : List Stmt} {scope : Scope} {dvs : List V} {kws : List (Str × V)}
theorem okK (F : FunD K x qual params body scope dvs kws f fd) (S : FnScope N ps scope) (count : ∀ a cls d vs H Q E, sp a cls d vs H Q E → vs.length = ps.length)
    (inner : ∀ (cdv : Value) (A : Around) (outer : List Env) (s : Shared) (H : Hp) (vs : List V) (Q : VK) (E : XK) (p : Addr × Obj), L2H.Hot1 A p → L2H.RoomH k (A.deeper (envOfC qual scope s.heap.objs.size f cdv)) → sp p.1 p.2.cls p.2.dict vs H Q E →
      ∃ t, PSs (L2H.cxH CX P w K mg base N qual scope f cdv A outer s H E p) body t ∧ t { nx := fun _ H' => Q .non H', rt := Q } (L2.start N vs) H) : FnK P w K mg base CX (k + 1) f fd ps sp := by
  obtain ⟨oc, od, dV, kV, doc, pm, an, cdv, ct, osl, rfl, place, code, _, _⟩ := F.ex
  refine ⟨count, fun A outer s H args us vs Q E p room hot pin env bind vals good => ?_⟩
  obtain ⟨t, sound, holds⟩ := inner cdv A outer s H vs Q E p hot (room.deeper _) good
  have old : ∀ b o, base.get? b = some o → s.heap.get? b = some o := fun b o e => (env.bs b o e).1
  have kin := env.mod.kin.keeps old
  have slots : ∀ y ∈ ps.zip us, scope.names.lookup y.1 = some .local ∨ (scope.names.lookup y.1 = some .cell ∧ ((cellsFrom (s.heap.objs.size + 1) scope.names []).lookup y.1).isSome = true) := fun y hy =>
    (S.par y.1 (List.of_mem_zip (a := y.1) (b := y.2) hy).1).imp id fun c => ⟨c, PySem.W.cellsFrom_some _ _ _ (.inl c)⟩
  apply codeAny_call_function room.depth (kin _ _ place) rfl S.co S.gen rfl (PySem.W.codeRec_of kin code)
  apply bind
  refine wpAny_newFunctionEnv_cells S.kind slots ?_
  rintro _ rfl s1 step
  have inv := L2H.inv_startH (CX := CX) (E := E) S pin env (count _ _ _ _ _ _ _ good) vals step
  refine ⟨(env.mod.nolimit.keeps old).keeps step.toInCall.keep, codeAny_func (wpAny_mono (sound.run [] s1 (L2.start N vs) H _ inv holds) ?_ fun _ _ z => z)⟩
  rintro (_ | _ | _ | u) s' out
  · obtain ⟨_, H', J, done⟩ := out
    exact ⟨.non, H', J.os, J.bare, J.base, J.hok, rfl, done⟩
  · exact out.elim fun _ ⟨_, _, no⟩ => no.elim
  · exact out.elim fun _ ⟨_, _, no⟩ => no.elim
  · obtain ⟨v, _, H', J, rel, done⟩ := out
    exact ⟨v, H', J.os, J.bare, J.base, J.hok, rel, done⟩
end
section
variable {X : Cx} {CX : CXT} {k : Nat} {f : Addr} {fd : FuncData} {ps : List Str} {sp : Addr → Value → Option Addr → Sp} {x : Str} {q pos : Pos} {e : Expr} {es : List Expr} {t : TA} {a : Addr} {oe : Obj} {cls : Value} {d : Option Addr}
/-- f(e, ..) in a suite -/
def tCallK (sp : Sp) (t : TA) : TE := fun σ H Q => t σ H fun vs H1 => sp vs H1 Q fun _ _ _ => False
theorem pe_callK (F : FnK X.prog X.w X.K X.mg X.base CX k f fd ps sp) (hr : L2H.RoomH k X.A) (hot : L2H.Hot1 X.A (a, oe)) (hp : (a, oe) ∈ X.pn) (hz : L2N.Zn cls d oe) (hg : Gl X x) (hm : X.mg x = some (.ref f)) (hk : PySem.W.keepIn X.K (.ref f) = true) (hb : Binds X.K fd ps []) (hx : Passes CX X fun _ _ _ => False)
    (ha : PA X (e :: es) t) (hdb : (x == ("__debug__" : Str)) = false := by decide) (he : starEach (e :: es) X.env = (false, eval e X.env) :: starEach es X.env := by rfl) (hpl : (backTo pos (starEach es X.env)).any (·.1) = false := by rfl) :
    PE X (.Call (.Name x q) (e :: es) [] pos) (tCallK (sp a cls d) t) := ⟨fun pins s σ H Q I h => by
  obtain ⟨rfl, rfl, _⟩ := hz
  refine wpAny_Call_Name_kw (ld_glob I hg hm (PySem.W.callWith_K (h₀ := X.base) I.ok.mod.kin hk (thn (ha.run pos pins s σ H _ I h) ?_) he hpl) hdb)
  rintro us s1 ⟨vs, H1, I1, rel, good⟩
  refine ⟨I1.kIn, ?_⟩
  have count : us.length = ps.length := rel.length.symm.trans (F.count _ _ _ _ _ _ _ good)
  have bound := hb s1 us I1.kIn (by rw [List.append_nil]; exact count)
  rw [List.append_nil] at bound
  obtain ⟨here, free, noLoc, noFs, noCell⟩ := I1.pin (a, oe) (List.mem_append_left _ hp)
  have pin : L2H.PinOk X.stack H1 s1 (a, oe) := ⟨here, free, fun z => (List.mem_cons.mp (I1.stkSub a z)).elim noLoc noFs, noCell⟩
  refine wpAny_call (codeAny_mono (F.goes X.A X.stack s1 H1 ⟨us, []⟩ us vs Q _ (a, oe) hr hot pin I1.env0 bound rel good) ?_)
  rintro (er | _ | _ | _ | u) s' out
  · exact hx pins σ H1 s1 er s' I1 out
  · exact False.elim out
  · exact False.elim out
  · exact False.elim out
  · exact I1.after out⟩
end
/-! ### isinstance of the exception that is handled -/
section
variable {X : Cx} {a : Addr} {oe : Obj} {cls : Value} {d : Option Addr}
def rIsK (K : PySem.W.Frag) (a : Addr) (cls : Value) (d : Option Addr) : List V → Hp → VK → Prop := fun xs H Q => ∃ (D : Addr) (c : V) (cv : Value) (b : Bool) (dd : Addr) (fs : List (Str × V)), cls = .ref D ∧ xs = [.ref a, c] ∧ L2.ExcC K D ∧ (∀ u, RelV c u → u = cv) ∧ PySem.W.kitOne K (.ref D) cv = some b ∧ d = some dd ∧ H dd = some (.xd fs) ∧ Q (.bl b) H
theorem call_isK (hp : (a, oe) ∈ X.pn) (hc : oe.cls = cls) (hd : oe.dict = d) (flds : ∃ vs, oe.data = .fields vs) : CallR X (.builtin "isinstance") (rIsK X.K a cls d) := fun pins s σ H xs us Q I r h => by
  obtain ⟨D, c, cv, b, dd, fs, rfl, rfl, C, only, kit, rfl, hx, q⟩ := h
  cases r with
  | cons r1 r2 =>
    cases r1
    obtain ⟨u, rfl, ru⟩ := Vals.one r2
    cases only u ru
    obtain ⟨vs, hv⟩ := flds
    obtain ⟨here, _⟩ := I.pin (a, oe) (List.mem_append_left _ hp)
    obtain ⟨mA, ⟨od, es, ep, there, _⟩, _⟩ := (I.hok dd _ hx : ObjOk X.prog X.w H s.heap dd (.xd fs))
    have inst : PySem.W.InstAt s.heap a oe D (some od) := ⟨here, hc, by unfold PySem.W.notCls; rw [hv] <;> rfl, by rw [hd]; exact there⟩
    obtain ⟨cd, hcd, _⟩ := PySem.W.any_some C.hd
    exact PySem.W.kia_one (PySem.W.kitx_exc (by rw [hcd]; rfl) C.hg C.hk C.hs C.ha C.hn C.ht C.hm) I.kIn inst kit (fun z => nomatch z) fun tk => ⟨.bl b, H, I.kept (t' := tk) fun _ _ z => z, rfl, q⟩
end
/-! ### calls that may be refused, in a try -/
section
variable {X : Cx} {W : WX} {k : Nat} {f C : Addr} {fd : FuncData} {ps : List Str} {sp : Sp} {x m : Str} {p pos apos : Pos} {e o : Expr} {es : List Expr} {ta : TE} {t : TA}
/-- C(e, ..) -/
def tMakeX (C : Addr) (sp : Sp) (W : WX) (t : TA) : TE := fun σ H Q => t σ H fun vs H1 => ∀ x dx, H1 x = none → H1 dx = none → dx ≠ x →
  sp (.ref x :: vs) (upd (upd H1 dx (.own x)) x (.ins C dx [])) (fun v H2 => v = .non ∧ Q (.ref x) H2) fun cls d H' => W cls d σ H'
theorem pe_makeX (M : Mk X.K C f) (F : FnOk X.prog X.w X.K X.mg X.base (L2N.CX X.prog X.w) k f fd ps sp) (hr : Room (k + 1) X.A) (hg : Gl X x) (hm : X.mg x = some (.ref C)) (hb : Binds X.K fd ps []) (tk : L2N.Takes X W)
    (ha : PA X (e :: es) t) (hdb : (x == ("__debug__" : Str)) = false := by decide) (he : starEach (e :: es) X.env = (false, eval e X.env) :: starEach es X.env := by rfl) (hpl : (backTo pos (starEach es X.env)).any (·.1) = false := by rfl) :
    PE X (.Call (.Name x p) (e :: es) [] pos) (tMakeX C sp W t) := ⟨fun pins s σ H Q I h => by
  refine wpAny_Call_Name_kw (ld_glob I hg hm (PySem.W.callWith_K (h₀ := X.base) I.ok.mod.kin M.kp (thn (ha.run pos pins s σ H _ I h) ?_) he hpl) hdb)
  rintro us s1 ⟨vs, H1, I1, rel, q⟩
  refine ⟨I1.kIn, ?_⟩
  have good := q (s1.heap.objs.size + 1) s1.heap.objs.size (I1.hok.fresh (Nat.le_succ _)) (I1.hok.fresh (Nat.le_refl _)) (Nat.ne_of_lt (Nat.lt_succ_self _))
  have J := Inv.made (C := C) I1
  have all : Vals (V.ref (s1.heap.objs.size + 1) :: vs) (Value.ref (s1.heap.objs.size + 1) :: us) := .cons rfl rel
  have count : (Value.ref (s1.heap.objs.size + 1) :: us).length = ps.length := all.length.symm.trans (F.len _ _ _ _ good)
  have bound := hb _ (Value.ref (s1.heap.objs.size + 1) :: us) J.kIn (by rw [List.append_nil]; exact count)
  rw [List.append_nil] at bound
  refine wpAny_call (make_map (f := f) I1.kIn M.makes M.init (beq_iff_eq.mp M.fn) (codeAny_mono (F.run _ X.stack _ _ ⟨Value.ref (s1.heap.objs.size + 1) :: us, []⟩ _ _ _ _ (hr.make C us []) (J.env0.make C us []) bound all good) ?_))
  rintro (er | _ | _ | _ | u) s' out
  · exact tk er s' (L2N.XE.of_call J (fun _ _ _ z => z) out)
  · exact False.elim out
  · exact False.elim out
  · exact False.elim out
  obtain ⟨_, H', I3, rv, rfl, done⟩ := J.after out
  exact ⟨rv, .ref (s1.heap.objs.size + 1), H', I3, rfl, done⟩⟩
/-- o.m(e, ..) -/
def tMethX (C : Addr) (m : Str) (sp : Sp) (W : WX) (ta : TE) (t : TA) : TE := fun σ H Q => ta σ H fun x H1 => ∃ a dx fs, x = .ref a ∧ H1 a = some (.ins C dx fs) ∧ fs.lookup m = none ∧ t σ H1 fun vs H2 => sp (x :: vs) H2 Q fun cls d H' => W cls d σ H'
theorem pe_methX {pl : Sem Bool} (he : PE X o ta) (c : Cls X.K C) (hm : Meth X.K C m f) (F : FnOk X.prog X.w X.K X.mg X.base (L2N.CX X.prog X.w) k f fd ps sp) (hr : Room k X.A) (hb : Binds X.K fd ps []) (tk : L2N.Takes X W) (ha : PA X (e :: es) t)
    (hst : starEach (e :: es) X.env = (false, eval e X.env) :: starEach es X.env := by rfl) (hpl : (backTo pos (starEach es X.env)).any (·.1) = false := by rfl)
    (ht : Reads X o m apos (e :: es) [] pos pl := by intro _ _ _ h; exact PySem.W.methodCall_KW h) :
    PE X (.Call (.Attribute o m apos) (e :: es) [] pos) (tMethX C m sp W ta t) := ⟨fun pins s σ H Q I h => by
  refine ht (thn (he.run pins s σ H _ I h) ?_)
  rintro _ s1 ⟨_, H1, I1, rx, a, dx, fs, rfl, here, no, q⟩
  cases rx
  refine getmeth_ok I1 here c hm no (PySem.W.callWith_K (first := [.ref a]) (h₀ := X.base) I.ok.mod.kin hm.kp (thn (ha.run pos pins s1 σ H1 _ I1 q) ?_) hst hpl)
  rintro us s2 ⟨vs, H2, I2, rel, good⟩
  exact ⟨I2.kIn, run_fnS (us := .ref a :: us) (vs := .ref a :: vs) (E := WE W) F hr hb (L2N.passAt tk σ) I2 (.cons rfl rel) good⟩⟩
end
section
variable {X : Cx} {W : WX} {k : Nat} {f C : Addr} {fd : FuncData} {ps ks : List Str} {sp : Sp} {m : Str} {pos apos : Pos} {o : Expr} {ta : TE} {tk : TA} {kws : List Keyword} {g : List Value → List Value → List Value} {gV : List V → List V → List V}
/-- o.m(k = v, ..) -/
def tMethKX (C : Addr) (m : Str) (n : Nat) (sp : Sp) (gV : List V → List V → List V) (W : WX) (ta : TE) (tk : TA) : TE := fun σ H Q => ta σ H fun x H1 => ∃ a dx fs, x = .ref a ∧ H1 a = some (.ins C dx fs) ∧ fs.lookup m = none ∧ tk σ H1 fun zs H2 => zs.length = n ∧ sp (gV [x] zs) H2 Q fun cls d H' => W cls d σ H'
theorem pe_methKX {pl : Sem Bool} {CX : CXT} (he : PE X o ta) (c : Cls X.K C) (hm : Meth X.K C m f) (F : FnOk X.prog X.w X.K X.mg X.base CX k f fd ps sp) (hr : Room k X.A) (hb : KBn X.K fd ps 1 ks g gV) (hx : ∀ σ, PassesAt CX X σ (WE W σ)) (hkw : PK X kws tk)
    (hall : (backToKw pos (keywordEach kws X.env)).all (·.1.isSome) = true := by rfl) (hks : (backToKw pos (keywordEach kws X.env)).filterMap (·.1) = ks := by rfl)
    (hpl : ((backTo pos (starEach [] X.env)).any (·.1) || (backToKw pos (keywordEach kws X.env)).any (·.1.isNone)) = false := by rfl)
    (ht : Reads X o m apos [] kws pos pl := by intro _ _ _ h; exact PySem.W.methodCall_KW h) :
    PE X (.Call (.Attribute o m apos) [] kws pos) (tMethKX C m ks.length sp gV W ta tk) := ⟨fun pins s σ H Q I h => by
  refine ht (thn (he.run pins s σ H _ I h) ?_)
  rintro _ s1 ⟨_, H1, I1, rx, a, dx, fs, rfl, here, no, q⟩
  cases rx
  refine getmeth_ok I1 here c hm no (PySem.W.callWith_KW0 (first := [.ref a]) (h₀ := X.base) I.ok.mod.kin hm.kp hall (thn (hkw.run pos pins s1 σ H1 _ I1 q) ?_) hpl)
  rintro ws s2 ⟨zs, H2, I2, rel, count, good⟩
  refine ⟨I2.kIn, ?_⟩
  rw [hks, List.append_nil]
  have one : Vals [V.ref a] [Value.ref a] := .cons rfl .nil
  refine wpAny_call (codeAny_mono (F.run X.A X.stack s2 H2 ⟨[.ref a], ks.zip ws⟩ (g [.ref a] ws) (gV [.ref a] zs) Q _ hr I2.env0 (hb.to s2 [.ref a] ws I2.kIn rfl (rel.length.symm.trans count)) (hb.rel one rel) good) ?_)
  rintro (er | _ | _ | _ | u) s' out
  · exact hx σ pins H2 s2 er s' I2 out
  · exact False.elim out
  · exact False.elim out
  · exact False.elim out
  · exact I2.after out⟩
end
/-! ### what is let out by nobody, what is hot -/
theorem takes0 {X : Cx} : L2N.Takes X fun _ _ _ _ => False := fun _ _ ⟨_, _, _, _, _, _, _, _, _, _, _, _, _, _, _, _, no⟩ => no.elim
theorem passF {X : Cx} : Passes (L2N.CX X.prog X.w) X fun _ _ _ => False := fun _ _ _ _ _ _ _ ⟨_, _, _, _, _, _, _, _, _, _, _, _, no⟩ => no.elim
theorem hot1 {A : Around} {a : Addr} {oe : Obj} {cls : Value} {d : Option Addr} (hz : L2N.Zn cls d oe) (hf : ∃ vs, oe.data = .fields vs) : L2H.Hot1 (A.mark (some (.ref a))) (a, oe) := by
  obtain ⟨vs, hd⟩ := hf
  exact ⟨rfl, vs, hd, hz.2.2 vs hd⟩
/-! ### len of an own instance -/
section
variable {X : Cx} {CX : CXT} {n : Nat} {f C : Addr} {fd : FuncData} {ps : List Str} {sp : Sp} {E : XK}
def rLenO (C : Addr) (sp : Sp) (E : XK) : List V → Hp → VK → Prop := fun xs H Q => ∃ a dx fs, xs = [.ref a] ∧ H a = some (.ins C dx fs) ∧ sp xs H (fun v H' => ∃ z : Nat, v = .int z ∧ z ≤ 1000 ∧ Q (.int z) H') E
theorem call_lenO (F : FnOk X.prog X.w X.K X.mg X.base CX n f fd ps sp) (hs : PySem.W.findIn X.K (.ref C) "__len__" = some (some (.ref f))) (hf : PySem.W.isFn X.K (.ref f) = true) (hb : Binds X.K fd ps []) (hx : Passes CX X E) (hr : Room (n + 1) X.A) :
    CallR X (.builtin "len") (rLenO C sp E) := fun pins s σ H xs us Q I r h => by
  obtain ⟨a, dx, fs, rfl, ha, q⟩ := h
  cases Vals.ref1 r
  obtain ⟨mA, J, _⟩ := ins_get I.hok ha
  obtain ⟨od, J, _⟩ := J.look
  obtain ⟨m, fr⟩ := I.fr
  have sb : L2.Sub X (n + 1) X.A := ⟨hr, rfl⟩
  refine PySem.W.len_K fr I.ok.mod.kin J hs hf (wpAny_mono (UO.call_sub F hb hx sb.in1 I (show Vals [V.ref a] [Value.ref a] from .cons rfl .nil) q) ?_ fun _ _ x => x)
  rintro v s' ⟨_, H', I', rv, z, rfl, few, done⟩
  obtain ⟨t, rfl⟩ := rv
  exact ⟨⟨by omega, by omega⟩, .int z, H', I'.tok _, ⟨_, rfl⟩, done⟩
end
/-! ### what the top leaves of an own exception class -/
def leTail : List Value := [.type "LookupError", .type "Exception", .type "BaseException", .type "object"]
def ownB (K : PySem.W.Frag) (C f : Addr) (bmB : List Value) (newId : String) : Bool :=
  PySem.W.excInitIn K C bmB newId && (PySem.W.excOver K C bmB && (PySem.W.hasDictIn K C && (decide (PySem.W.findIn K (.ref C) "__setattr__" = some (some (.builtin "object.__setattr__"))) && (decide (PySem.W.subIn K (.ref C) (.type "BaseException") = some true) &&
    (decide (PySem.W.typeIn K (.ref C) = some (.type "type")) && (PySem.W.keepIn K (.ref C) && (decide (PySem.W.findIn K (.ref C) "__init__" = some (some (.ref f))) && decide (PySem.W.typeIn K (.ref f) = some (.type "function")))))))))
structure OwnY (K : PySem.W.Frag) (C f : Addr) (B newId initId : String) (bmB : List Value) : Prop where
  own : OwnX K C B newId initId bmB
  init : PySem.W.findIn K (.ref C) "__init__" = some (some (.ref f))
  fn : PySem.W.typeIn K (.ref f) = some (.type "function")
theorem ownB_ok {K : PySem.W.Frag} {C f : Addr} {B newId initId : String} {bmB : List Value} (base : UE.BaseM newId initId bmB) (store : StoreFacts B bmB "object.__setattr__" "object") (h : ownB K C f bmB newId = true) : OwnY K C f B newId initId bmB := by
  unfold ownB at h
  simp only [Bool.and_eq_true, decide_eq_true_eq] at h
  obtain ⟨h1, h2, h3, h4, h5, h6, h7, h8, h9⟩ := h
  exact ⟨⟨base, store, h1, h2, h3, h4, h5, h6, h7⟩, h8, h9⟩
def asksB (K : PySem.W.Frag) (C : Addr) : Bool :=
  decide (PySem.W.findIn K (.ref C) "__getattribute__" = some (some (.builtin "BaseException.__getattribute__"))) && (decide (PySem.W.findIn K (.ref C) "__getattr__" = some none) && (decide (PySem.W.subIn K (.ref C) (.type "BaseException") = some true) && (PySem.W.hasDictIn K C &&
    (decide (PySem.W.findIn K (.ref C) "__class__" = some (some (.builtin "object.__class__"))) && (decide (PySem.W.specialIn K (.builtin "object.__class__") "__get__" = some (some (.builtin "getset_descriptor.__get__"))) && (decide (PySem.W.takesIn K (.builtin "object.__class__") = some true) &&
      (decide (PySem.W.mroIn K C (.type "object") = some true) && decide (PySem.W.exmOne K (.ref C) (.ref C) = some true))))))))
structure Asks (K : PySem.W.Frag) (C : Addr) : Prop where
  is : L2.ExcC K C
  fld : XfC K C
  exm : PySem.W.exmOne K (.ref C) (.ref C) = some true
theorem asksB_ok {K : PySem.W.Frag} {C : Addr} (h : asksB K C = true) : Asks K C := by
  unfold asksB at h
  simp only [Bool.and_eq_true, decide_eq_true_eq] at h
  obtain ⟨h1, h2, h3, h4, h5, h6, h7, h8, h9⟩ := h
  exact ⟨⟨h1, h2, h3, h4, h5, h6, h7, h8⟩, ⟨h1, h2, h3, h4⟩, h9⟩
def noB (K : PySem.W.Frag) (C : Addr) (f : Str) : Bool := decide (PySem.W.findIn K (.ref C) f = some none)
def kitB (K : PySem.W.Frag) (C : Addr) (c : Value) (b : Bool) : Bool := decide (PySem.W.kitOne K (.ref C) c = some b)
end UX
namespace UX
open PySem PySem.Spec PyProof.Rows L2
theorem passAt0 {X : Cx} {σ : L2.St} : PassesAt CX0 X σ (WE (fun _ _ _ _ => False) σ) := fun _ _ _ _ _ _ no => no.elim
/-- with a lock or, where another holds one already, without -/
def tLkE (t : TE) : TE := fun σ H Q => tLockE t σ H Q ∨ t σ H Q
theorem pe_lk {X : Cx} {e : Expr} {t : TE} (h : PE X e t) : PE X e (tLkE t) := ⟨fun pins s σ H Q I hw => hw.elim ((pe_lock h).run pins s σ H Q I) (h.run pins s σ H Q I)⟩
/-- which __init__ a built-in class has -/
def viB (K : PySem.W.Frag) (b i : String) : Bool := match PySem.W.findCls K (.type b) (.type "type") "__init__" with
  | some (.val v) => decide (v = .builtin i)
  | _ => false
theorem viB_ok {K : PySem.W.Frag} {b i : String} (h : viB K b i = true) : PySem.W.findCls K (.type b) (.type "type") "__init__" = some (.val (.builtin i)) := by
  unfold viB at h
  split at h
  · rename_i v e
    rw [e, of_decide_eq_true h]
  · cases h
/-! ### bool of an own instance that has a len -/
section
variable {X : Cx} {CX : CXT} {n : Nat} {f C : Addr} {fd : FuncData} {ps : List Str} {sp : Sp} {E : XK}
def rBoolO (C : Addr) (sp : Sp) (E : XK) : List V → Hp → VK → Prop := fun xs H Q => ∃ a dx fs, xs = [.ref a] ∧ H a = some (.ins C dx fs) ∧ sp xs H (fun v H' => ∃ z : Nat, v = .int z ∧ z ≤ 1000 ∧ Q (.bl ((z : Int) != 0)) H') E
/-- whether it is so, by its len -/
theorem truthy_len {prog : Program} {w : World} {A : Around} {K : PySem.W.Frag} {s : Shared} {a C f : Addr} {ox : Obj} {od : Option Obj} {Q : Bool → Shared → Prop} {E : Value → Shared → Prop} (X : K.In s.heap) (I : PySem.W.InstAt s.heap a ox C od)
    (hb : PySem.W.findIn K (.ref C) "__bool__" = some none) (hs : PySem.W.findIn K (.ref C) "__len__" = some (some (.ref f))) (hf : PySem.W.isFn K (.ref f) = true)
    (h : wpAny (model prog w) A.in1 (call (.ref f) [.ref a]) (fun r s' => ∃ (z : Nat) (t : Tok), r = .int z t ∧ z ≤ 1000 ∧ ∀ tk, Q ((z : Int) != 0) { s' with toks := tk }) E s) : wpAny (model prog w) A (truthy (.ref a)) Q E s := by
  have no : ∀ {Q' : Option Value → Shared → Prop}, Q' none s → wpAny (model prog w) A (specialOf (.ref a) "__bool__") Q' E s := fun q => wpAny_bind (I.type.here ((PySem.W.looks_findIn X hb).here q))
  have yes : ∀ {Q' : Option Value → Shared → Prop}, Q' (some (.ref f)) s → wpAny (model prog w) A (specialOf (.ref a) "__len__") Q' E s := fun q => wpAny_bind (I.type.here ((PySem.W.looks_findIn X hs).here q))
  have len : wpAny (model prog w) A.in1 (Builtin.«len» ⟨[.ref a], []⟩) (fun fin s' => ∃ v, fin = .done (.ret v) ∧ ∃ (z : Nat) (t : Tok), v = .int z t ∧ Q ((z : Int) != 0) s') E s := by
    unfold Builtin.«len»
    refine wpAny_bind (m := oneArg _ _) (wpAny_pure (wpAny_bind (m := callSpecial? _ _) (PySem.W.special_fn X I hs (beq_iff_eq.mp hf) (wpAny_mono h ?_ fun _ _ y => y))))
    rintro r s' ⟨z, t, rfl, few, done⟩
    have n0 : ¬ (z : Int) < 0 := by omega
    have n1 : ¬ (z : Int) ≥ 2 ^ 63 := by omega
    refine wpAny_bind (wpAny_holding (wpAny_pure (wpAny_bind (wpAny_letGo ?_))))
    dsimp only
    rw [if_neg n0, if_neg n1]
    exact wpAny_bind (wpAny_mkInt (wpAny_pure ⟨_, rfl, z, _, rfl, done _⟩))
  unfold truthy
  refine wpAny_bind (m := callSpecial? _ _) (wpAny_bind (no (wpAny_pure (wpAny_bind (yes ?_)))))
  rw [if_neg (by simp)]
  refine wpAny_bind (PyProof.Rows.runValue_entry PySem.entry_len ?_)
  rw [Around.under_plainId PySem.plain_len _]
  refine wpAny_mono len ?_ fun _ _ y => y
  rintro fin s' ⟨v, rfl, z, t, rfl, done⟩
  exact ⟨_, rfl, wpAny_pure done⟩
theorem call_boolO (F : FnOk X.prog X.w X.K X.mg X.base CX n f fd ps sp) (hno : PySem.W.findIn X.K (.ref C) "__bool__" = some none) (hs : PySem.W.findIn X.K (.ref C) "__len__" = some (some (.ref f))) (hf : PySem.W.isFn X.K (.ref f) = true) (hb : Binds X.K fd ps []) (hx : Passes CX X E) (hr : Room (n + 4) X.A) :
    CallR X (.type "bool") (rBoolO C sp E) := fun pins s σ H xs us Q I r h => by
  obtain ⟨a, dx, fs, rfl, ha, q⟩ := h
  cases Vals.ref1 r
  refine PySem.callType_newIn PySem.F.called_bool PySem.F.newNe_bool (PySem.F.typeCall_bool_1 _) (PySem.F.newCall_bool_1 _) (fun obj => PySem.F.args_object_init_2 obj _) PySem.F.entry_bool_new (S := fun A R s => wpAny (model X.prog X.w) A.in1 (truthy (.ref a)) (fun b s' => R (.ok (.ret (.bool b))) s') (fun e s' => R (.error e) s') s) (MeetsIn.of_wp fun A R s hs' => ?_) ?_
  · obtain ⟨hp, g, d, tk, os⟩ := s
    have f1 := PySem.F.conv_sub_bool
    repeat (any_goals (first | assumption | (with_reducible refine wpAny_mono hs' (fun b s' hb => ?_) fun _ _ x => x) | wp_step))
    all_goals first | exact ⟨_, rfl, hb⟩ | skip
  · obtain ⟨mA, J, _⟩ := ins_get I.hok ha
    obtain ⟨od, J, _⟩ := J.look
    have sb : L2.Sub X (n + 4) X.A := ⟨hr, rfl⟩
    refine truthy_len I.kIn J hno hs hf (wpAny_mono (UO.call_sub F hb hx (sb.in1.in1.in1.mono (Nat.le_succ _)) I (show Vals [V.ref a] [Value.ref a] from .cons rfl .nil) q) ?_ fun _ _ x => x)
    rintro v s' ⟨_, H', I', rv, z, rfl, few, done⟩
    obtain ⟨t, rfl⟩ := rv
    exact ⟨z, t, rfl, few, fun tk => ⟨rfl, .bl _, H', I'.tok _, rfl, done⟩⟩
end
/-- a built-in method's reading, by the fragment's own name (within a comprehension) -/
theorem pe_bmAs {X : Cx} {K : PySem.W.Frag} {e : Expr} {T : String} {r : V → List V → Hp → VK → Prop} {to : TE} {t : TA} (hK : X.K = K) (h : PE X e (tBM X.K T r to t)) : PE X e (tBM K T r to t) := hK ▸ h
/-! ### an own class whose __init__ is that of its built-in base -/
section
variable {X : Cx} {e : Expr} {es : List Expr} {ta : TA} {x : Str} {p1 p2 pos : Pos} {B newId initId : String} {bmB : List Value}
/-- D.__init__(self, ..), D an own class that has its __init__ of the built-in class B -/
theorem pe_initO {pl : Sem Bool} {D : Addr} (hg : Gl X x) (hm : X.mg x = some (.ref D)) (rd : PySem.W.readsIn X.K D (.type "type") = true) (ga : PySem.W.specialIn X.K (.ref D) "__getattribute__" = some (some (.builtin "type.__getattribute__"))) (at_ : PySem.W.findCls X.K (.ref D) (.type "type") "__init__" = some (.val (.builtin initId))) (hi : PySem.W.handedIn (.builtin initId) = true) (ha : PA X (e :: es) ta)
    (hc : Reads X (.Name x p1) "__init__" p2 (e :: es) [] pos pl := by intro _ _ _ h; exact PySem.W.methodCall_KW h)
    (hdb : (x == ("__debug__" : Str)) = false := by decide) (he : starEach (e :: es) X.env = (false, eval e X.env) :: starEach es X.env := by rfl) (hpl : (backTo pos (starEach es X.env)).any (·.1) = false := by rfl) : PE X (.Call (.Attribute (.Name x p1) "__init__" p2) (e :: es) [] pos) (tInit X.K B newId initId bmB ta) := ⟨fun pins s σ H Q I h => by
  refine hc (ld_glob I hg hm ?_ hdb)
  refine PySem.W.method_cls I.kIn ga (PySem.W.cls_value I.kIn rd at_ hi ?_)
  refine callWith_method1 (thn (ha.run pos pins _ σ H _ (I.tok _) h) ?_) he hpl
  rintro us s1 ⟨_, H1, I1, rel, a, C, ws, rfl, few, T, here, q⟩
  cases rel with
  | cons ra rest =>
    cases ra
    exact init1 T I1 here (by rw [← Paired.length rest, sizeLine_eq]; omega) fun s' J => ⟨.non, H1, J, rfl, q⟩⟩
end
def veTail : List Value := [.type "ValueError", .type "Exception", .type "BaseException", .type "object"]
/-- what D.__init__ comes to -/
def baseB (K : PySem.W.Frag) (D : Addr) (i : String) : Bool := PySem.W.readsIn K D (.type "type") && (decide (PySem.W.specialIn K (.ref D) "__getattribute__" = some (some (.builtin "type.__getattribute__"))) && (match PySem.W.findCls K (.ref D) (.type "type") "__init__" with
  | some (.val v) => decide (v = .builtin i)
  | _ => false))
structure BaseY (K : PySem.W.Frag) (D : Addr) (i : String) : Prop where
  rd : PySem.W.readsIn K D (.type "type") = true
  ga : PySem.W.specialIn K (.ref D) "__getattribute__" = some (some (.builtin "type.__getattribute__"))
  at_ : PySem.W.findCls K (.ref D) (.type "type") "__init__" = some (.val (.builtin i))
theorem baseB_ok {K : PySem.W.Frag} {D : Addr} {i : String} (h : baseB K D i = true) : BaseY K D i := by
  unfold baseB at h
  obtain ⟨h1, h⟩ := He.ba h
  obtain ⟨h2, h3⟩ := He.ba h
  refine ⟨h1, of_decide_eq_true h2, ?_⟩
  split at h3
  · rename_i v e
    rw [e, of_decide_eq_true h3]
  · cases h3
/-! ### a Hook whose fragment holds the interpreter's own statics too -/
def frC (n : Nat) (g : Addr → Option Obj) : PySem.W.Frag := He.frG g (He.asD g n ++ [cStatics])
def obsC (n : Nat) (fa : List He.Fa) (fn : List He.DefD) (ex : PySem.W.Frag → Bool) (g : Addr → Option Obj) : UO.AlB := (He.obsD fa fn (frC n g), ex (frC n g))
def hookC (n : Nat) (fa : List He.Fa) (fn : List He.DefD) (ex : PySem.W.Frag → Bool) : PySem.W.Hook where
  α := UO.AlB
  obs := fun s => obsC n fa fn ex s.heap.get?
  val := fun _ => (He.valD fn, true)
  says := fun _ h => ∃ K : PySem.W.Frag, K.In h ∧ He.SaysD fa fn K ∧ ex K = true
  of := fun _ _ e => ⟨_, He.frG_in, congrArg (fun z : UO.AlB => z.1) e, congrArg (fun z : UO.AlB => z.2) e⟩
  keeps := fun _ _ _ ⟨K, hK, c⟩ k => ⟨K, PySem.W.Frag.In.keeps hK k, c⟩
theorem obsC_eq {n : Nat} {fa : List He.Fa} {fn : List He.DefD} {ex : PySem.W.Frag → Bool} {g : Addr → Option Obj} {s : Shared} (h : ∀ a, g a = s.heap.get? a) : obsC n fa fn ex g = (hookC n fa fn ex).obs s := by
  obtain rfl : g = s.heap.get? := funext h
  rfl
end UX
/-! own layer: repr of any thing that may be shown, where nothing else is being shown -/
namespace UQ
open PySem PySem.Spec PyProof.Rows L2 UE
theorem flat_shown {d : PyData} {n : Nat} (h : Flat d n) : d.shown.length ≤ n ∧ d.showable = true ∧ d.hasDict = false ∧ d.depth = 0 := by
  cases h with
  | non => exact ⟨by decide +kernel, rfl, rfl, rfl⟩
  | bl b => exact ⟨by cases b <;> decide +kernel, rfl, rfl, rfl⟩
  | @int i h =>
    have len := int_text_length_le10 (k := 60) (by decide) h
    refine ⟨?_, decide_eq_true (log_few h), rfl, rfl⟩
    show (Str.ofString (toString i)).length ≤ 61
    rw [PySem.ofString_length]
    omega
  | @str x h => exact ⟨StrLaws.reprText_len x h, rfl, rfl, rfl⟩
theorem flats_shown {ds : List PyData} {n : Nat} (h : Flats ds n) : piled (PyData.shownAll ds) ≤ n ∧ PyData.showableAll ds = true ∧ PyData.hasDictAll ds = false ∧ PyData.depthAll ds = 0 := by
  induction h with
  | nil => exact ⟨Nat.le_refl _, rfl, rfl, rfl⟩
  | @cons d n ds m a _ ih =>
    obtain ⟨a1, a2, a3, a4⟩ := flat_shown a
    obtain ⟨b1, b2, b3, b4⟩ := ih
    refine ⟨?_, ?_, ?_, ?_⟩
    · show piled (d.shown :: PyData.shownAll ds) ≤ _
      rw [piled_cons]
      omega
    · show (d.showable && PyData.showableAll ds) = true
      rw [a2, b2]
      rfl
    · show (d.hasDict || PyData.hasDictAll ds) = false
      rw [a3, b3]
      rfl
    · simp [PyData.depthAll, a4, b4]
theorem low_shown {d : PyData} {n : Nat} (h : Low d n) : d.shown.length ≤ n ∧ d.showable = true ∧ d.hasDict = false ∧ d.depth ≤ 1 := by
  cases h with
  | flat h =>
    obtain ⟨a1, a2, a3, a4⟩ := flat_shown h
    exact ⟨a1, a2, a3, by omega⟩
  | @lst ds n h =>
    obtain ⟨b1, b2, b3, b4⟩ := flats_shown h
    refine ⟨?_, b2, b3, by simp [PyData.depth, b4]⟩
    have := list_few (PyData.shownAll ds)
    show (listText (PyData.shownAll ds)).length ≤ _
    omega
theorem lows_shown {ds : List PyData} {n : Nat} (h : Lows ds n) : piled (PyData.shownAll ds) ≤ n ∧ PyData.showableAll ds = true ∧ PyData.hasDictAll ds = false ∧ PyData.depthAll ds ≤ 1 := by
  induction h with
  | nil => exact ⟨Nat.le_refl _, rfl, rfl, Nat.zero_le _⟩
  | @cons d n ds m a _ ih =>
    obtain ⟨a1, a2, a3, a4⟩ := low_shown a
    obtain ⟨b1, b2, b3, b4⟩ := ih
    refine ⟨?_, ?_, ?_, ?_⟩
    · show piled (d.shown :: PyData.shownAll ds) ≤ _
      rw [piled_cons]
      omega
    · show (d.showable && PyData.showableAll ds) = true
      rw [a2, b2]
      rfl
    · show (d.hasDict || PyData.hasDictAll ds) = false
      rw [a3, b3]
      rfl
    · simp only [PyData.depthAll]
      omega
theorem odd_shown {d : PyData} {n : Nat} (h : Odd d n) : d.shown.length ≤ n ∧ d.showable = true ∧ d.hasDict = false ∧ d.depth ≤ 2 := by
  cases h with
  | low h =>
    obtain ⟨a1, a2, a3, a4⟩ := low_shown h
    exact ⟨a1, a2, a3, by omega⟩
  | @tup ds n h =>
    obtain ⟨b1, b2, b3, b4⟩ := lows_shown h
    refine ⟨?_, b2, b3, by simp [PyData.depth]; omega⟩
    have := fmt_text (PyData.shownAll ds)
    show (tupleText (PyData.shownAll ds)).length ≤ _
    omega
section
variable {X : Cx}
/-- repr(x) -/
def rReprO (K : PySem.W.Frag) : List V → Hp → VK → Prop := fun vs H Q => ∃ (v : V) (d : PyData) (n : Nat), vs = [v] ∧ Dp K H v d ∧ Odd d n ∧ n ≤ 2000 ∧ Q (.str d.shown) H
theorem cr_reprO (quiet : X.A.guards = some []) (units : X.A.units + 66 < cLine) : CallR X (.builtin "repr") (rReprO X.K) := fun pins s σ H vs us Q I r h => by
  obtain ⟨v, d, n, rfl, hd, odd, few, q⟩ := h
  obtain ⟨u, rfl, ru⟩ := Vals.one r
  obtain ⟨a1, a2, a3, a4⟩ := odd_shown odd
  have line : d.shown.length ≤ sizeLine := by rw [sizeLine_eq]; omega
  cases hd with
  | non =>
    cases ru
    exact P.repr_of_none ⟨.str _, H, I.tok _, ⟨_, rfl⟩, q⟩
  | bl b =>
    cases ru
    exact P.repr_of_bool ⟨.str _, H, I.tok _, ⟨_, rfl⟩, q⟩
  | int i =>
    obtain ⟨t, rfl⟩ := ru
    exact P.repr_of_int (of_decide_eq_true a2) ⟨.str _, H, I.tok _, ⟨_, rfl⟩, q⟩
  | str x =>
    obtain ⟨t, rfl⟩ := ru
    exact P.repr_of_str ⟨.str _, H, I.tok _, ⟨_, rfl⟩, q⟩ line
  | lst sq all =>
    cases ru
    obtain ⟨as, rd⟩ := Dp.reads I _ _ _ (.lst sq all) (show RelV (.ref _) (.ref _) from rfl)
    exact repr_of_reads' rd a2 (PyData.noDict_hsm a3) quiet (by omega) (fun _ _ e => e) (fun h' u tk old => ⟨.str _, H, I.kept old, ⟨_, rfl⟩, q⟩) line
  | tup sq all =>
    cases ru
    obtain ⟨as, rd⟩ := Dp.reads I _ _ _ (.tup sq all) (show RelV (.ref _) (.ref _) from rfl)
    exact repr_of_reads' rd a2 (PyData.noDict_hsm a3) quiet (by omega) (fun _ _ e => e) (fun h' u tk old => ⟨.str _, H, I.kept old, ⟨_, rfl⟩, q⟩) line
end
theorem un66H {k : Nat} {A : Around} (r : L2H.RoomH k A) : A.units + 66 < cLine := by
  have := r.un
  omega
theorem passFAt {X : Cx} {σ : L2.St} : PassesAt (L2N.CX X.prog X.w) X σ (WE (fun _ _ _ _ => False) σ) := fun _ _ _ _ _ _ ⟨_, _, _, _, _, _, _, _, _, _, _, _, no⟩ => no.elim
/-! ### a def called where nothing is being shown -/
section
variable {X : Cx} {CX : CXT} {k : Nat} {f : Addr} {fd : FuncData} {ps : List Str} {sp : Sp} {x : Str} {q pos : Pos} {e : Expr} {es : List Expr} {t : TA}
def tCallG (sp : Sp) (t : TA) : TE := fun σ H Q => t σ H fun vs H1 => sp vs H1 Q fun _ _ _ => False
theorem pe_callG (F : UG.FnG X.prog X.w X.K X.mg X.base CX k f fd ps sp) (quiet : X.A.guards = some []) (hr : Room k X.A) (hg : Gl X x) (hm : X.mg x = some (.ref f)) (hk : PySem.W.keepIn X.K (.ref f) = true) (hb : Binds X.K fd ps []) (hx : Passes CX X fun _ _ _ => False)
    (ha : PA X (e :: es) t) (hdb : (x == ("__debug__" : Str)) = false := by decide) (he : starEach (e :: es) X.env = (false, eval e X.env) :: starEach es X.env := by rfl) (hpl : (backTo pos (starEach es X.env)).any (·.1) = false := by rfl) :
    PE X (.Call (.Name x q) (e :: es) [] pos) (tCallG sp t) := ⟨fun pins s σ H Q I h => by
  refine wpAny_Call_Name_kw (ld_glob I hg hm (PySem.W.callWith_K (h₀ := X.base) I.ok.mod.kin hk (thn (ha.run pos pins s σ H _ I h) ?_) he hpl) hdb)
  rintro us s1 ⟨vs, H1, I1, rel, good⟩
  refine ⟨I1.kIn, ?_⟩
  have bound := hb s1 us I1.kIn (by rw [List.append_nil]; exact rel.length.symm.trans (F.count _ _ _ _ good))
  rw [List.append_nil] at bound
  refine wpAny_call (codeAny_mono (F.goes X.A X.stack s1 H1 ⟨us, []⟩ us vs Q _ quiet hr I1.env0 bound rel good) ?_)
  rintro (er | _ | _ | _ | u) s' out
  · exact hx pins σ H1 s1 er s' I1 out
  · exact False.elim out
  · exact False.elim out
  · exact False.elim out
  · exact I1.after out⟩
end
end UQ
/-! own layer: lists of own instances, == and != where all are equal -/
namespace UL
open PySem PySem.Spec PyProof.Rows L2 UO
open AutoSeq1 (wpAny_loadPart')
open MeetsSeq MeetsSeq2 MeetsSeq3 SeqRoads2 SeqAt
/-- at l and b stand two lists of N things each -/
def Both (s : Shared) (l b : Addr) (xs ys : Array Value) : Prop := ∃ n m, s.heap.get? l = some { cls := .type "list", data := .seq xs n } ∧ s.heap.get? b = some { cls := .type "list", data := .seq ys m }
section
variable {prog : Program} {w : World} {A : Around} {R : Result → Shared → Prop} {l b : Addr} {xs ys : Array Value} {P : Shared → Prop} {c : Int} {y : Bool}
theorem from_here (hc : (c = 2 ∧ y = true) ∨ (c = 3 ∧ y = false)) (same : xs.size = ys.size) (there : ∀ s, P s → Both s l b xs ys)
    (each : ∀ (i : Nat) (u v : Value) (s : Shared), xs[i]? = some u → ys[i]? = some v → P s → wpAny (model prog w) A.in1 (eqBool u v) (fun k s' => k = true ∧ P s') (fun e s' => R (.error e) s') s) (fin : ∀ s, P s → R (.ok (.ret (.bool y))) s) :
    ∀ (m i : Nat) (s : Shared), i + m = xs.size → P s → wpAny (model prog w) A.in1 (Builtin.«list.__eq__.loop» ⟨[.ref l, .ref b, rawInt i, rawInt c], []⟩) (GQ.FinOf prog w A R) (fun e s' => R (.error e) s') s := by
  intro m
  induction m with
  | zero =>
    intro i s hi p
    obtain ⟨n, m, hl, hb⟩ := there s p
    have e1 : xs[((i : Int)).toNat]? = none := by
      rw [Int.toNat_natCast]
      exact Array.getElem?_eq_none (by omega)
    have last := fin s p
    obtain ⟨hp, g, d, tk, os⟩ := s
    have sz : (xs.size == ys.size) = true := by rw [same, beq_self_eq_true]
    have sn : (xs.size != ys.size) = false := by rw [same, bne_self_eq_false]
    rcases hc with ⟨rfl, rfl⟩ | ⟨rfl, rfl⟩
    · wp_walk using wpAny_loadPart' hl, wpAny_loadPart' hb
      rw [e1]
      wp_walk using wpAny_loadPart' hl, wpAny_loadPart' hb
      show R (.ok (.ret (.bool (xs.size == ys.size)))) _
      rw [sz]
      exact last
    · wp_walk using wpAny_loadPart' hl, wpAny_loadPart' hb
      rw [e1]
      wp_walk using wpAny_loadPart' hl, wpAny_loadPart' hb
      show R (.ok (.ret (.bool (xs.size != ys.size)))) _
      rw [sn]
      exact last
  | succ m ih =>
    intro i s hi p
    obtain ⟨n, k, hl, hb⟩ := there s p
    obtain ⟨u, hu⟩ : ∃ u, xs[i]? = some u := ⟨_, Array.getElem?_eq_getElem (by omega)⟩
    obtain ⟨v, hv⟩ : ∃ v, ys[i]? = some v := ⟨_, Array.getElem?_eq_getElem (by omega)⟩
    have hu' : xs[((i : Int)).toNat]? = some u := by rw [Int.toNat_natCast]; exact hu
    have hv' : ys[((i : Int)).toNat]? = some v := by rw [Int.toNat_natCast]; exact hv
    have one := each i u v s hu hv p
    have next : ∀ s', P s' → wpAny (model prog w) A.in1 (Builtin.«list.__eq__.loop» ⟨[.ref l, .ref b, rawInt ((i : Int) + 1), rawInt c], []⟩) (GQ.FinOf prog w A R) (fun e s' => R (.error e) s') s' := fun s' p' => ih (i + 1) s' (by omega) p'
    obtain ⟨hp, g, d, tk, os⟩ := s
    have go : ∀ s', P s' → wpAny (model prog w) A.in1 (again (.builtin "list.__eq__.loop" ⟨[.ref l, .ref b, rawInt ((i : Int) + 1), rawInt c], []⟩)) (GQ.FinOf prog w A R) (fun e s' => R (.error e) s') s' := fun s' p' => by
      have nx := next s' p'
      obtain ⟨hp', g', d', tk', os'⟩ := s'
      wp_walk
      exact ⟨plainId_quiet plain_eq_loop _, codeAny_builtin entry_eq_loop (by
        rw [Around.under_plainId plain_eq_loop _]
        exact nx)⟩
    rcases hc with ⟨rfl, rfl⟩ | ⟨rfl, rfl⟩
    · wp_walk using wpAny_loadPart' hl, wpAny_loadPart' hb
      rw [hu', hv']
      refine wpAny_bind (wpAny_mono one ?_ fun _ _ z => z)
      rintro _ s' ⟨rfl, p'⟩
      exact go s' p'
    · wp_walk using wpAny_loadPart' hl, wpAny_loadPart' hb
      rw [hu', hv']
      refine wpAny_bind (wpAny_mono one ?_ fun _ _ z => z)
      rintro _ s' ⟨rfl, p'⟩
      exact go s' p'
/-- two lists, compared by list's own == -/
theorem all_eq (same : xs.size = ys.size) (there : ∀ s, P s → Both s l b xs ys)
    (each : ∀ (i : Nat) (u v : Value) (s : Shared), xs[i]? = some u → ys[i]? = some v → P s → wpAny (model prog w) A.in1 (eqBool u v) (fun k s' => k = true ∧ P s') (fun e s' => R (.error e) s') s) (fin : ∀ s, P s → R (.ok (.ret (.bool true))) s) {s : Shared} (p : P s) :
    wpAny (model prog w) A.in1 (Builtin.«list.__eq__» ⟨[.ref l, .ref b], []⟩) (GQ.FinOf prog w A R) (fun e s' => R (.error e) s') s := by
  have step := from_here (y := true) (.inl ⟨rfl, rfl⟩) same there each fin xs.size 0 s (Nat.zero_add _) p
  obtain ⟨n, k, hl, hb⟩ := there s p
  obtain ⟨hp, g, d, tk, os⟩ := s
  have f3 := AutoSeq1.sub_list_list
  have hne : ¬ (xs.size != ys.size) = true := by simp [same]
  wp_walk using wpAny_loadPart' hl, wpAny_loadPart' hb
  exact ⟨plainId_quiet plain_eq_loop _, codeAny_builtin entry_eq_loop (by
    rw [Around.under_plainId plain_eq_loop _]
    exact step)⟩
/-- and by its own != -/
theorem all_ne (same : xs.size = ys.size) (there : ∀ s, P s → Both s l b xs ys)
    (each : ∀ (i : Nat) (u v : Value) (s : Shared), xs[i]? = some u → ys[i]? = some v → P s → wpAny (model prog w) A.in1 (eqBool u v) (fun k s' => k = true ∧ P s') (fun e s' => R (.error e) s') s) (fin : ∀ s, P s → R (.ok (.ret (.bool false))) s) {s : Shared} (p : P s) :
    wpAny (model prog w) A.in1 (Builtin.«list.__ne__» ⟨[.ref l, .ref b], []⟩) (GQ.FinOf prog w A R) (fun e s' => R (.error e) s') s := by
  have step := from_here (y := false) (.inr ⟨rfl, rfl⟩) same there each fin xs.size 0 s (Nat.zero_add _) p
  obtain ⟨n, k, hl, hb⟩ := there s p
  obtain ⟨hp, g, d, tk, os⟩ := s
  have f3 := AutoSeq1.sub_list_list
  have hne : ¬ (xs.size != ys.size) = true := by simp [same]
  wp_walk using wpAny_loadPart' hl, wpAny_loadPart' hb
  exact ⟨plainId_quiet plain_eq_loop _, codeAny_builtin entry_eq_loop (by
    rw [Around.under_plainId plain_eq_loop _]
    exact step)⟩
end
section
variable {X : Cx} {n : Nat} {r : R2}
/-- lists of instances, each equal to the one at its place in the other -/
def rSame (r : R2) (y : Bool) : R2 := fun u v H Q => ∃ (a b : Addr) (xs ys : List Addr), u = .ref a ∧ v = .ref b ∧ H a = some (.lst (xs.map V.ref)) ∧ H b = some (.lst (ys.map V.ref)) ∧ xs.length = ys.length ∧
  (∀ (i : Nat) (p q : Addr), xs[i]? = some p → ys[i]? = some q → ∀ H', Same H H' → r (.ref p) (.ref q) H' fun t H'' => t = .bl true ∧ Same H' H'') ∧ ∀ H', Same H H' → Q (.bl y) H'
theorem refs_at : ∀ {xs : List Addr} {us : List Value}, Vals (xs.map V.ref) us → us = xs.map Value.ref
  | [], _, .nil => rfl
  | x :: xs, _, .cons r t => by
    cases r
    rw [refs_at t]
    rfl
theorem at_list {pins : List (Addr × Obj)} {σ : L2.St} {H : Hp} {s : Shared} {a : Addr} {xs : List Addr} (I : L2.Inv X pins σ H s) (h : H a = some (.lst (xs.map V.ref))) : ∃ k, s.heap.get? a = some { cls := .type "list", data := .seq (xs.map Value.ref).toArray k } := by
  obtain ⟨z, its, k, rv, e⟩ := I.hok a _ h
  rw [refs_at rv] at e
  exact ⟨k, e⟩
theorem same_run (h : EqO X n r) {A : Around} {pins : List (Addr × Obj)} {σ : L2.St} {H : Hp} {s : Shared} {a b : Addr} {xs ys : List Addr} (sb : Sub X n A.in1) (I : L2.Inv X pins σ H s) (ha : H a = some (.lst (xs.map V.ref))) (hb : H b = some (.lst (ys.map V.ref)))
    (each : ∀ (i : Nat) (p q : Addr), xs[i]? = some p → ys[i]? = some q → ∀ H', Same H H' → r (.ref p) (.ref q) H' fun t H'' => t = .bl true ∧ Same H' H'') :
    (∀ s', (∃ H', L2.Inv X pins σ H' s' ∧ Same H H') → Both s' a b (xs.map Value.ref).toArray (ys.map Value.ref).toArray) ∧
    ∀ (i : Nat) (u v : Value) (s' : Shared), (xs.map Value.ref).toArray[i]? = some u → (ys.map Value.ref).toArray[i]? = some v → (∃ H', L2.Inv X pins σ H' s' ∧ Same H H') → wpAny (model X.prog X.w) A.in1 (eqBool u v) (fun k s'' => k = true ∧ ∃ H', L2.Inv X pins σ H' s'' ∧ Same H H') X.xe s' := by
  refine ⟨fun s' ⟨H', I', ex⟩ => ?_, fun i u v s' hu hv ⟨H', I', ex⟩ => ?_⟩
  · obtain ⟨k, e⟩ := at_list I' (ex _ _ ha)
    obtain ⟨m, e'⟩ := at_list I' (ex _ _ hb)
    exact ⟨k, m, e, e'⟩
  · rw [List.getElem?_toArray, List.getElem?_map] at hu hv
    obtain ⟨p, hp, rfl⟩ := Option.map_eq_some_iff.mp hu
    obtain ⟨q, hq, rfl⟩ := Option.map_eq_some_iff.mp hv
    refine wpAny_mono (h A.in1 pins s' σ H' (.ref p) (.ref q) (.ref p) (.ref q) _ sb I' rfl rfl (each i p q hp hq H' ex)) ?_ fun _ _ z => z
    rintro k s'' ⟨H'', I'', e, ex'⟩
    exact ⟨by injection e, H'', I'', ex.trans ex'⟩
theorem rc_same (h : EqO X n r) : RcO X (n + 1) (rSame r true) := by
  intro A pins s σ H x y u v Q sb I rx ry hq
  obtain ⟨a, b, xs, ys, rfl, rfl, ha, hb, len, each, q⟩ := hq
  cases rx
  cases ry
  obtain ⟨there, run⟩ := same_run h sb.in1 I ha hb each
  obtain ⟨k, hl⟩ := at_list I ha
  obtain ⟨m, hl2⟩ := at_list I hb
  refine wpAny_richCompare_same_room (op := .Eq) ⟨_, hl, rfl⟩ ⟨_, hl2, rfl⟩ PySem.F.slot_list_eq (GQ.call_here PySem.F.slot_list_eq ⟨_, hl, rfl⟩ PySem.F.entry_list_eq (PySem.F.args_list_eq_2 _ _) ?_) sb.room.units0
  exact all_eq (R := wants (fun v s' => v ≠ .notImplemented ∧ ∃ b H', v = .bool b ∧ L2.Inv X pins σ H' s' ∧ Q (.bl b) H') X.xe) (P := fun s' => ∃ H', L2.Inv X pins σ H' s' ∧ Same H H') (by simp [len]) there run
    (fun s' ⟨H', I', ex⟩ => ⟨(fun z => nomatch z), true, H', rfl, I', q H' ex⟩) ⟨H, I, Same.refl H⟩
theorem op_neSame (h : EqO X n r) (hr : Room (n + 1) X.A) : OpR X (compareOp .NotEq) (rSame r false) := by
  intro pins s σ H x y v u Q I rx ry hq
  obtain ⟨a, b, xs, ys, rfl, rfl, ha, hb, len, each, q⟩ := hq
  cases rx
  cases ry
  have sb : Sub X (n + 1) X.A := ⟨hr, rfl⟩
  obtain ⟨there, run⟩ := same_run h sb.in1 I ha hb each
  obtain ⟨k, hl⟩ := at_list I ha
  obtain ⟨m, hl2⟩ := at_list I hb
  show wpAny (model X.prog X.w) X.A (richCompare .NotEq (.ref a) (.ref b)) (EP X pins σ Q) X.xe s
  refine wpAny_richCompare_same_room (op := .NotEq) ⟨_, hl, rfl⟩ ⟨_, hl2, rfl⟩ PySem.F.slot_list_ne (GQ.call_here PySem.F.slot_list_ne ⟨_, hl, rfl⟩ PySem.F.entry_list_ne (PySem.F.args_list_ne_2 _ _) ?_) sb.room.units0
  exact all_ne (R := wants (fun v s' => v ≠ .notImplemented ∧ EP X pins σ Q v s') X.xe) (P := fun s' => ∃ H', L2.Inv X pins σ H' s' ∧ Same H H') (by simp [len]) there run
    (fun s' ⟨H', I', ex⟩ => ⟨(fun z => nomatch z), .bl false, H', I', rfl, q H' ex⟩) ⟨H, I, Same.refl H⟩
/-- x is y, x is not y, of truths -/
def rIsB (neg : Bool) : R2 := fun x y H Q => ∃ a b : Bool, x = .bl a ∧ y = .bl b ∧ Q (.bl (xor neg (decide (a = b)))) H
theorem op_isB : OpR X (compareOp .Is) (rIsB false) := by
  intro pins s σ H x y v u Q I rx ry hq
  obtain ⟨a, b, rfl, rfl, q⟩ := hq
  cases rx
  cases ry
  cases a <;> cases b <;> exact wpAny_bind (wpAny_pure (wpAny_pure ⟨.bl _, H, I, rfl, q⟩))
theorem op_notB : OpR X (compareOp .IsNot) (rIsB true) := by
  intro pins s σ H x y v u Q I rx ry hq
  obtain ⟨a, b, rfl, rfl, q⟩ := hq
  cases rx
  cases ry
  cases a <;> cases b <;> exact wpAny_bind (wpAny_pure (wpAny_pure ⟨.bl _, H, I, rfl, q⟩))
end
end UL
/-! Walks where an exception is handled: the ends of the iterators of a list, a tuple, a dict's keys; turns over them. -/
namespace UJ
open PySem L2
open PySem.Spec PyProof.Rows
section
variable {prog : Program} {w : World} {A : Around} {E : Value → Shared → Prop} {s : Shared} {x1 it l d : Addr} {i : Nat} {items : Array Value} {Q : Option Value → Shared → Prop}
/-- the new StopIteration is chained to the exception that is handled, and goes no further -/
theorem stop_hot {hU : Heap} {t ob o1 : Obj} {vs vs1 : Array Value} {R : Fin → Shared → Prop} (hh : A.handled = some (.ref x1)) (g1 : hU.get? x1 = some o1) (d1 : o1.data = .fields vs1) (c1 : vs1[2]? = some .none)
    (co : ob.cls = .type "StopIteration") (dob : ob.data = .fields vs) (size : 2 < vs.size) (nt : t.isFreed = false) (no : ob.isFreed = false) (q : ∀ h', (∀ c o, hU.get? c = some o → h'.get? c = some o) → Q none { s with heap := h' }) :
    wpAny (model prog w) A.in1 (raiseNew (.ref (hU.push t).objs.size)) R (fun e s' => wpAny (model prog w) A (do
      let b ← isInstance e (.type "StopIteration")
      if b = true then pure none else throw e) Q E s') { s with heap := (hU.push t).push ob } := by
  have old : ∀ {c : Addr} {o : Obj}, hU.get? c = some o → (hU.push t).get? c = some o := fun e => Heap.get?_push_of_some _ e
  have new : ((hU.push t).push ob).get? (hU.push t).objs.size = some ob := Heap.get?_push_size _ no
  refine HotX.raiseNew_hot ⟨hh, o1, vs1, Heap.get?_push_of_some _ (old g1), d1, c1⟩ (Nat.ne_of_lt (Heap.lt_size (old g1))) new dob size ?_
  have put := Heap.get?_update_self (Obj.mapFields (·.setIfInBounds 2 (.ref x1))) new (Obj.isFreed_of_fields (Obj.data_mapFields dob _))
  refine wpAny_bind (wpAny_isInstance (T := "StopIteration") (b := true) ⟨_, put, (Obj.cls_mapFields ..).trans co⟩ isSubtype_stop (wpAny_pure (q _ fun c o e => ?_)))
  exact (Heap.get?_update_other _ _ (Nat.ne_of_gt (Heap.lt_size (old e)))).trans (Heap.get?_push_of_some _ (old e))
theorem list_end (hot : HotX.HotAt A x1 s.heap) (I : s.heap.IsListIter it l i) (L : s.heap.IsList l items) (past : items[i]? = none) (apart : x1 ≠ it)
    (q : ∀ h', Heap.ExtBut it s.heap h' → Q none { s with heap := h' }) : wpAny (model prog w) A (pyNext (.ref it)) Q E s := by
  have T := I.typeIs
  obtain ⟨oi, gi, ci, di⟩ := I
  obtain ⟨ol, gl, cl, nl, dl⟩ := L
  obtain ⟨hh, o1, vs1, g1, d1, c1⟩ := hot
  have ne : (Value.ref l == Value.none) = false := rfl
  refine wpAny_bind (wpAny_attempt (wpAny_callSpecial?_slot T slot_listiter_next (wpAny_call_entry slot_listiter_next T entry_listiter_next ?_ (args_listiter_next _))))
  wp_walk
  repeat first
    | (rw [di]; wp_walk)
    | (rw [dl]; wp_walk)
    | (simp only [ne, Bool.false_eq_true, if_false, Int.toNat_natCast, past]; wp_walk)
  exact stop_hot hh ((Heap.get?_update_other s.heap _ apart.symm).trans g1) d1 c1 rfl rfl (by simp; omega) rfl rfl fun h' k => q h' fun c o n e => k c o ((Heap.get?_update_other s.heap _ n.symm).trans e)
theorem tuple_end (hot : HotX.HotAt A x1 s.heap) (I : s.heap.IsTupleIter it l i) (L : s.heap.IsTuple l items) (past : items[i]? = none) (apart : x1 ≠ it)
    (q : ∀ h', Heap.ExtBut it s.heap h' → Q none { s with heap := h' }) : wpAny (model prog w) A (pyNext (.ref it)) Q E s := by
  have T := I.typeIs
  obtain ⟨oi, gi, ci, di⟩ := I
  obtain ⟨ol, gl, cl, nl, dl⟩ := L
  obtain ⟨hh, o1, vs1, g1, d1, c1⟩ := hot
  have ne : (Value.ref l == Value.none) = false := rfl
  refine wpAny_bind (wpAny_attempt (wpAny_callSpecial?_slot T F.slot_tuple_iterator_next (wpAny_call_entry F.slot_tuple_iterator_next T F.entry_tuple_iterator_next ?_ (F.args_tuple_iterator_next_1 _))))
  wp_walk
  repeat first
    | (rw [di]; wp_walk)
    | (rw [dl]; wp_walk)
    | (simp only [ne, Bool.false_eq_true, if_false, Int.toNat_natCast, past]; wp_walk)
  exact stop_hot hh ((Heap.get?_update_other s.heap _ apart.symm).trans g1) d1 c1 rfl rfl (by simp; omega) rfl rfl fun h' k => q h' fun c o n e => k c o ((Heap.get?_update_other s.heap _ n.symm).trans e)
theorem keys_end {n ep : Nat} {od : Obj} {es : Array DictEntry} (hot : HotX.HotAt A x1 s.heap) (I : s.heap.IsKeyIter it d i n ep) (gd : s.heap.get? d = some od) (dd : od.data = .dict es ep) (size : es.size = n) (past : n ≤ i) (apart : x1 ≠ it)
    (q : ∀ h', Heap.ExtBut it s.heap h' → Q none { s with heap := h' }) : wpAny (model prog w) A (pyNext (.ref it)) Q E s := by
  have T := I.typeIs
  obtain ⟨oi, gi, ci, di⟩ := I
  obtain ⟨hh, o1, vs1, g1, d1, c1⟩ := hot
  have own : Builtin.Dict_items.ownsTuple ((Manifest.find? "dict_keyiterator").elim "dict_keyiterator" fun x => x.tpName) = false := by decide +kernel
  have neg : ¬ ((i : Int) < 0) := by omega
  have over : es[i]? = none := Array.getElem?_eq_none (by omega)
  refine wpAny_bind (wpAny_attempt (wpAny_callSpecial?_slot T F.slot_dict_keyiterator_next (wpAny_call_entry F.slot_dict_keyiterator_next T F.entry_dict_keyiterator_next ?_ (F.args_dict_keyiterator_next_1 _))))
  wp_walk
  rw [di]
  wp_walk
  simp only [own, Bool.false_eq_true, if_false, List.drop_zero, List.take_succ_cons, List.take_zero, show (Value.ref d == Value.none) = false from rfl]
  wp_walk
  rw [dd]
  wp_walk
  rw [dd]
  wp_walk
  simp only [neg, if_false, Int.toNat_natCast, over]
  wp_walk
  rw [di]
  simp only [own, Bool.false_eq_true, if_false]
  wp_walk
  exact stop_hot hh ((Heap.get?_update_other s.heap _ apart.symm).trans g1) d1 c1 rfl rfl (by simp; omega) rfl rfl fun h' k => q h' fun c o n e => k c o ((Heap.get?_update_other s.heap _ n.symm).trans e)
end
/-! ### turns over one iterator -/
/-- the handled exception, apart from an iterator's object -/
theorem hot_apart {X : Cx} {pins : List (Addr × Obj)} {σ : L2.St} {H : Hp} {s : Shared} {it : Addr} (c : L2H.HotC X) (I : Inv X pins σ H s) (f : FpOk X pins H it) : ∃ x1, HotX.HotAt X.A x1 s.heap ∧ x1 ≠ it := by
  obtain ⟨p, ⟨hh, vs, data, none_⟩, mem⟩ := c
  have both := List.mem_append_left pins mem
  exact ⟨p.1, ⟨hh, p.2, vs, (I.pin p both).1, data, none_⟩, f.2.2.2.2.2 p both⟩
/-- a turn from what its draws are: a plain iterator at `it` whose object is told by n, vs -/
theorem turnH_of {P : Program} {w : World} {K : PySem.W.Frag} {tg : Expr} {J : It} {it : Addr} {n : String} {vs : Nat → Array Value}
    (plain : ["enumerate", "zip", "dict_itemiterator", "dict_reverseitemiterator", "odict_iterator", "itertools.zip_longest", "itertools.pairwise"].contains n = false)
    (self : ∀ (A : Around) (i : Nat) (s : Shared) (Q : Value → Shared → Prop) (E : Value → Shared → Prop), (∃ o, s.heap.get? it = some o ∧ o.cls = .type n ∧ o.data = .fields (vs i)) → Q (.ref it) s → wpAny (model P w) A (pyIter (.ref it)) Q E s)
    (item : ∀ X : Cx, X.prog = P → X.w = w → X.K = K → ∀ i pins s σ H, Inv X pins σ H s → (∃ o, s.heap.get? it = some o ∧ o.cls = .type n ∧ o.data = .fields (vs i)) → J.go i H → ∀ (Q : Option Value → Shared → Prop) (E : Value → Shared → Prop),
      (∀ u x h', RelV x u → J.yld i H x H → (∃ o, h'.get? it = some o ∧ o.cls = .type n ∧ o.data = .fields (vs (i + 1))) → Heap.SameBut it s.heap h' → Q (some u) { s with heap := h' }) → wpAny (model P w) X.A (pyNext (.ref it)) Q E s)
    (done : ∀ X : Cx, X.prog = P → X.w = w → X.K = K → ∀ i pins s σ H x1, Inv X pins σ H s → HotX.HotAt X.A x1 s.heap → x1 ≠ it → (∃ o, s.heap.get? it = some o ∧ o.cls = .type n ∧ o.data = .fields (vs i)) → J.stop i H → ∀ (Q : Option Value → Shared → Prop) (E : Value → Shared → Prop),
      (∀ h', Heap.ExtBut it s.heap h' → Q none { s with heap := h' }) → wpAny (model P w) X.A (pyNext (.ref it)) Q E s) :
    L2H.TurnH P w K tg J [it] it (fun i h => ∃ o, h.get? it = some o ∧ o.cls = .type n ∧ o.data = .fields (vs i)) := by
  refine ⟨List.mem_singleton_self it, fun i h st b hb => ?_, fun i h h' st k => ?_, fun X e1 e2 e3 hot i pins s σ H E I free st go => ?_, fun X e1 e2 e3 hot i pins s σ H E I free st stop => ?_, self⟩
  · obtain ⟨o, g, _, data⟩ := st
    rw [List.mem_singleton.mp hb]
    exact ⟨o, g, fun v z => by rw [data] at z; cases z⟩
  · obtain ⟨o, g, r⟩ := st
    exact ⟨o, k it (List.mem_singleton_self it) o g, r⟩
  · have f := free it (List.mem_singleton_self it)
    refine item X e1 e2 e3 i pins s σ H I st go _ _ fun u x h' rel y next same => ?_
    obtain ⟨o, g, cls, data⟩ := id next
    refine ⟨u, rfl, go_of (s := { s with heap := h' }) g cls data plain ⟨x, H, I.turned (t' := s.toks) (fun b ob nb e => same.extBut b ob nb e) f.1 f.2.1 f.2.2.2.1 f.2.2.2.2.1 f.2.2.2.2.2, rel, y, next, fun b hb => (free b hb).1⟩⟩
  · have f := free it (List.mem_singleton_self it)
    obtain ⟨x1, at_, apart⟩ := hot_apart hot I f
    exact done X e1 e2 e3 i pins s σ H x1 I at_ apart st stop _ _ fun h' ext => ⟨rfl, I.turned (t' := s.toks) (fun b ob nb e => ext b ob nb e) f.1 f.2.1 f.2.2.2.1 f.2.2.2.2.1 f.2.2.2.2.2⟩
section
variable {P : Program} {w : World} {K : PySem.W.Frag} {tg : Expr}
theorem turnH_list (a it : Addr) : L2H.TurnH P w K tg (Itl K a) [it] it (fun i h => ∃ o, h.get? it = some o ∧ o.cls = .type "list_iterator" ∧ o.data = .fields #[.ref a, .int i 0]) := by
  refine turnH_of (vs := fun i => #[.ref a, .int i 0]) (by decide) (fun _ _ _ _ _ st q => wpAny_pyIter_listiter st q) (fun X e1 e2 e3 i pins s σ H I st go Q E q => ?_) (fun X e1 e2 e3 i pins s σ H x1 I hot apart st stop Q E q => ?_)
  · subst e1 e2 e3
    obtain ⟨xs, x, seq, at_i⟩ := go
    obtain ⟨its, rel, list, _⟩ := I.list seq
    obtain ⟨u, at_u, r⟩ := rel.get at_i
    exact wpAny_pyNext_list_item st list.isList (x := u) (by simpa using at_u) fun h' next same => q u x h' r ⟨rfl, fun ys seq' => by rw [I.list_inj seq' seq]; exact at_i⟩ next same
  · subst e1 e2 e3
    obtain ⟨xs, seq, past⟩ := stop
    obtain ⟨its, rel, list, _⟩ := I.list seq
    have len := rel.length
    exact list_end hot st list.isList (by simp; omega) apart q
theorem turnH_tuple (a it : Addr) : L2H.TurnH P w K tg (Itt K a) [it] it (fun i h => ∃ o, h.get? it = some o ∧ o.cls = .type "tuple_iterator" ∧ o.data = .fields #[.ref a, .int i 0]) := by
  refine turnH_of (vs := fun i => #[.ref a, .int i 0]) (by decide) (fun _ _ _ _ _ st q => wpAny_pyIter_tupleiter st q) (fun X e1 e2 e3 i pins s σ H I st go Q E q => ?_) (fun X e1 e2 e3 i pins s σ H x1 I hot apart st stop Q E q => ?_)
  · subst e1 e2 e3
    obtain ⟨xs, x, seq, at_i⟩ := go
    obtain ⟨its, rel, tup, _⟩ := I.tuple seq
    obtain ⟨u, at_u, r⟩ := rel.get at_i
    exact wpAny_pyNext_tuple_item st (show s.heap.IsTuple a its.toArray from tup) (x := u) (by simpa using at_u) fun h' next same => q u x h' r ⟨rfl, fun ys seq' => by rw [I.tuple_inj seq' seq]; exact at_i⟩ next same
  · subst e1 e2 e3
    obtain ⟨xs, seq, past⟩ := stop
    obtain ⟨its, rel, tup, _⟩ := I.tuple seq
    have len := rel.length
    exact tuple_end hot st (show s.heap.IsTuple a its.toArray from tup) (by simp; omega) apart q
theorem turnH_keys {d : Addr} {o : Obj} {es : Array DictEntry} {ep : Nat} {kvs : List (Key × V)} (it : Addr) (data : o.data = .dict es ep) :
    L2H.TurnH P w K tg (Itk d o kvs) [it] it (fun i h => ∃ o, h.get? it = some o ∧ o.cls = .type "dict_keyiterator" ∧ o.data = .fields #[.ref d, .int i 0, .int kvs.length 0, .int ep 0]) := by
  refine turnH_of (vs := fun i => #[.ref d, .int i 0, .int kvs.length 0, .int ep 0]) (by decide) (fun _ _ _ _ _ st q => wpAny_pyIter_keyiter st q) (fun X e1 e2 e3 i pins s σ H I st go Q E q => ?_) (fun X e1 e2 e3 i pins s σ H x1 I hot apart st stop Q E q => ?_)
  · subst e1 e2 e3
    obtain ⟨lock, lt⟩ := go
    obtain ⟨_, _, _, es', ep', vs, data', _, kv, dict⟩ := I.frzK lock
    obtain ⟨-, rfl⟩ := dict_ep data data'
    have at_i := List.getElem?_eq_getElem lt
    obtain ⟨u, at_u, _⟩ := kv_get kv at_i
    have len : kvs.length = vs.length := Paired.length kv
    refine wpAny_pyNext_dict_item (show s.heap.IsKeyIter it d i vs.length ep' from len ▸ st) dict at_u fun key h' is next same => q key _ h' (relV_key is) ⟨rfl, _, _, at_i, rfl⟩ (len ▸ next) same
  · subst e1 e2 e3
    obtain ⟨lock, past⟩ := stop
    obtain ⟨_, there, _, es', ep', vs, data', size, _, _⟩ := I.frzK lock
    obtain ⟨-, rfl⟩ := dict_ep data data'
    exact keys_end hot st there data' size past apart q
end
/-! ### iter(..) of a list, a tuple, a locked dict -/
section
variable {X : Cx} {tg e : Expr} {te : TE}
/-- a new iterator object, and the turn over it -/
theorem begun {pins : List (Addr × Obj)} {σ : L2.St} {H : Hp} {s : Shared} {R : It → Hp → Prop} {J : It} {tn : Nat → Heap → Prop} {tk : Nat} (I : Inv X pins σ H s) (o : Obj)
    (turn : L2H.TurnH X.prog X.w X.K tg J [s.heap.objs.size] s.heap.objs.size tn) (st : tn 0 (s.heap.push o)) (q : R J H) : L2H.PIEH X pins σ tg R (.ref s.heap.objs.size) { s with heap := s.heap.push o, toks := tk } :=
  ⟨_, _, tn, J, H, rfl, I.kept fun _ _ e => Heap.get?_push_of_some _ e, turn, st, fun b hb => (List.mem_singleton.mp hb) ▸ I.fpOk (Nat.le_refl _) (I.hok.fresh (Nat.le_refl _)), q⟩
theorem pi_listH (he : PE X e te) : L2H.PIH X tg e (iList X.K te) :=
  ⟨fun pins s σ H R I h => thn (he.run pins s σ H _ I h) fun v s1 ⟨x, H1, I1, r, a, ex, ⟨xs, seq⟩, q⟩ => by
    subst ex
    cases r
    obtain ⟨its, _, list, _⟩ := I1.list seq
    exact wpAny_pyIter_list list.isList (begun (tk := s1.toks) I1 _ (turnH_list a _) ⟨_, Heap.get?_push_size _ rfl, rfl, rfl⟩ q)⟩
theorem pi_tupH (he : PE X e te) : L2H.PIH X tg e (iTup X.K te) :=
  ⟨fun pins s σ H R I h => thn (he.run pins s σ H _ I h) fun v s1 ⟨x, H1, I1, r, a, ex, ⟨xs, seq⟩, q⟩ => by
    subst ex
    cases r
    obtain ⟨its, _, tup, _⟩ := I1.tuple seq
    exact wpAny_pyIter_tuple (show s1.heap.IsTuple a its.toArray from tup) (begun (tk := s1.toks) I1 _ (turnH_tuple a _) ⟨_, Heap.get?_push_size _ rfl, rfl, rfl⟩ q)⟩
/-- the keys of a locked dict whose keys are scalars -/
def iKeysK (td : TE) : TI := fun σ H R => td σ H fun x H1 => ∃ d o kvs, x = .ref d ∧ H1 d = some (.frz o (.dK kvs)) ∧ R (Itk d o kvs) H1
theorem pi_keysH (he : PE X e te) : L2H.PIH X tg e (iKeysK te) :=
  ⟨fun pins s σ H R I h => thn (he.run pins s σ H _ I h) fun v s1 ⟨x, H1, I1, r, d, o, kvs, ex, lock, q⟩ => by
    subst ex
    cases r
    obtain ⟨lo, there, plain, es, ep, vs, data, size, _, _⟩ := I1.frzK lock
    exact iter_keys lo there plain data (begun (tk := s1.toks) I1 _ (turnH_keys _ data) ⟨_, Heap.get?_push_size _ rfl, rfl, by rw [size] <;> rfl⟩ q)⟩
end
/-! ### a comprehension's block while an exception is handled -/
/-- the block's context, the handled exception's object kept in sight -/
abbrev blkH (X : Cx) (s : Shared) (H : Hp) (scope : Scope) (ce : Env) (fp : List Addr) : Cx := { X.blk s H scope ce fp with pn := X.pn }
theorem repin {Y : Cx} {pn : List (Addr × Obj)} {σ : L2.St} {H : Hp} {s : Shared} (I : Inv Y [] σ H s) (k : ∀ p ∈ pn, s.heap.get? p.1 = some p.2 ∧ H p.1 = none ∧ p.1 ≠ Y.env.locals ∧ p.1 ∉ Y.fs ∧ ∀ v, p.2.data ≠ .cell v) : Inv { Y with pn := pn } [] σ H s := by
  have ok : Cx.Ok { Y with pn := pn } := by
    cases I.ok
    constructor <;> assumption
  exact ⟨ok, I.os, I.bare, I.base, I.loc, I.cell, I.free, I.freeC, fun p hp => k p (by simpa using hp), I.hok, I.len⟩
section
variable {X : Cx} {pins : List (Addr × Obj)} {σ : L2.St} {H : Hp} {s : Shared}
theorem pin_out (I : Inv X pins σ H s) {p : Addr × Obj} (hp : p ∈ X.pn) : p.1 ∉ frs X.stack := by
  obtain ⟨_, _, n1, n2, _⟩ := I.pin p (List.mem_append_left _ hp)
  rcases I.ok.stk with e | ⟨e, f⟩
  · rw [e]
    exact n2
  · rw [e]
    unfold frs
    rw [List.filterMap_cons, f]
    exact fun z => (List.mem_cons.mp z).elim n1 n2
theorem startH {scope : Scope} {own : List (Str × Nat)} {fp : List Addr} (I : Inv X pins σ H s) (ok : BlkOk X.N X.env.scope scope own) (hN : X.N.Nodup) (hfp : ∀ b ∈ fp, FpOk X pins H b ∧ b < s.heap.objs.size) :
    Inv (blkH X s H scope (compEnvC scope (cellsFrom (s.heap.objs.size + 1) scope.names (cloFrom X.env.cells scope.names [])) s.heap.objs.size X.env) fp) [] (wipe σ (own.map (·.2))) H
      { s with heap := pushCells (s.heap.push { cls := .type "dict", data := .dict #[] }) scope.names } :=
  repin (block_start I ok hN hfp) fun p hp => by
    obtain ⟨there, none_, _, _, data⟩ := I.pin p (List.mem_append_left _ hp)
    exact ⟨pushCells_keeps _ _ _ _ (Heap.get?_push_of_some _ there), none_, Nat.ne_of_lt (Heap.lt_size there), pin_out I hp, data⟩
end
theorem fp_in {Y : Cx} {σ : L2.St} {H : Hp} {s : Shared} {b : Addr} (I : Inv Y [] σ H s) (mem : b ∈ Y.ex) (none_ : H b = none) (apart : ∀ p ∈ Y.pn, p.1 ≠ b) : FpOk Y [] H b :=
  ⟨none_, (I.ok.exf b mem).1, I.ok.exfs b mem, .inl mem, (I.ok.exf b mem).2, fun p hp => apart p (by simpa using hp)⟩
section
variable {X : Cx}
/-- the loop of the block: Y its context, hot; K0 what stands at turn i -/
theorem block_loop {Y : Cx} {elt tg iter : Expr} {ifs : List Expr} {scope : Scope} {pos : Pos} {g : TG} {tt : TT} {te : TE} {J : It} {it D : Addr} {fp : List Addr} {tn : Nat → Heap → Prop} {W : Nat → Nat → Hp → Prop} {σ : L2.St} {vs : List Nat} {H : Hp} {s : Shared} {m0 : Nat} {Qd : Hp → Prop} {R : Result → Shared → Prop}
    (hot : L2H.HotC Y) (ex : Y.ex = fp) (xe : Y.xe = fun _ _ => False) (T : L2H.TurnH Y.prog Y.w Y.K tg J fp it tn) (pg : PG Y tg g) (pt : PTs Y ifs tt) (pe : PE Y elt te) (apart : ∀ b ∈ fp, ∀ p ∈ Y.pn, p.1 ≠ b)
    (I : Inv Y [] (wipe σ vs) H s) (st : tn 0 s.heap) (out : ∀ b ∈ fp, H b = none) (w0 : W 0 m0 H)
    (turn : ∀ i m H, W i m H → (J.stop i H ∧ Qd H) ∨ (J.go i H ∧ ∃ Nx : Hp → Prop, (∀ H', Nx H' → ∃ m', m' < m ∧ W (i + 1) m' H') ∧ ∀ x H', J.yld i H x H' → g x (wipe σ vs) H' fun σ2 H2 => wipe σ2 vs = wipe σ vs ∧ tt σ2 H2 fun b H3 =>
      if b = true then te σ2 H3 fun y H4 => ∃ acc, H4 D = some (.lst acc) ∧ acc.length < sizeLine ∧ Nx (upd H4 D (.lst (acc ++ [y]))) else Nx H3))
    (left : ∀ s' H', Inv Y [] (wipe σ vs) H' s' → Qd H' → R (.ok .next) s') :
    codeAny (model Y.prog Y.w) Y.A (.compLoop (.ListComp elt [⟨tg, iter, ifs, 0⟩] scope pos) 0 (.ref it) (.ref D) Y.env) R s := by
  subst ex
  refine compLoop_any (fun n s' => ∃ i H', Inv Y [] (wipe σ vs) H' s' ∧ tn i s'.heap ∧ (∀ b ∈ Y.ex, H' b = none) ∧ W i n H') ?_ m0 ⟨0, H, I, st, out, w0⟩
  rintro n s1 ⟨i, H1, I1, st1, out1, w1⟩
  have free : ∀ b ∈ Y.ex, FpOk Y [] H1 b := fun b hb => fp_in I1 hb (out1 b hb) (apart b hb)
  rcases turn i n H1 w1 with ⟨stop, done⟩ | ⟨go, Nx, next, step⟩
  · refine thnF (T.done Y rfl rfl rfl hot i [] s1 _ H1 _ I1 free st1 stop) fun r s2 ⟨e, I2⟩ => ?_
    subst e
    exact left s2 H1 I2 done
  refine thnF (T.item Y rfl rfl rfl hot i [] s1 _ H1 _ I1 free st1 go) fun r s2 ⟨u, e, drawn⟩ => ?_
  subst e
  refine thnF drawn fun _ s3 ⟨x, H3, I3, rx, yx, st3, out3⟩ => ?_
  have held := I3.pinned (fun b hb => fp_in I3 hb (out3 b hb) (apart b hb)) (T.obj _ _ st3)
  have given := pg.run _ s3 _ H3 x u _ held rx (step x H3 yx)
  rw [xe] at given
  refine thnF given fun _ s4 ⟨σ4, H4, I4, same, tests⟩ => ?_
  have tested := pt.run _ s4 σ4 H4 _ I4 tests
  rw [xe] at tested
  refine thnF tested fun b s5 ⟨H5, I5, rest⟩ => ?_
  have again : ∀ {s' : Shared} {H' : Hp}, Inv Y ([] ++ pinsAt Y.ex s3.heap) σ4 H' s' → Nx H' → ∃ m, m < n ∧ ∃ i H', Inv Y [] (wipe σ vs) H' s' ∧ tn i s'.heap ∧ (∀ b ∈ Y.ex, H' b = none) ∧ W i m H' := fun {s' H'} I' reached => by
    obtain ⟨m', less, w'⟩ := next H' reached
    have kept : ∀ b ∈ Y.ex, ∀ o, s3.heap.get? b = some o → s'.heap.get? b = some o ∧ H' b = none := fun b hb o e => by
      have z := I'.pin (b, o) (List.mem_append_right _ (List.mem_append_right _ (mem_pinsAt hb e)))
      exact ⟨z.1, z.2.1⟩
    refine ⟨m', less, i + 1, H', (I'.unpinned (pins := [])).weak (by rw [← same, wipe_length]) fun j v e => ?_, T.keep _ _ _ st3 fun b hb o e => (kept b hb o e).1, fun b hb => ?_, w'⟩
    · rw [← same] at e
      exact (wipe_some e).1
    · obtain ⟨o, e, _⟩ := T.obj _ _ st3 b hb
      exact (kept b hb o e).2
  cases b with
  | false => exact again I5 rest
  | true =>
    have made := pe.run _ s5 σ4 H5 _ I5 rest
    rw [xe] at made
    exact thnF made fun z s6 ⟨y, H6, I6, ry, acc, at_D, few, reached⟩ => app_ok (X := Y) I6 at_D few ry fun s7 I7 => again I7 reached
end
section
variable {X : Cx}
/-- a list comprehension where an exception is handled; what is done with the list (use) comes last -/
theorem lc_hot {pins : List (Addr × Obj)} {s : Shared} {σ : L2.St} {H : Hp} {Q : VK} {elt tg iter : Expr} {ifs : List Expr} {scope : Scope} {own : List (Str × Nat)} {pos pos' : Pos} {wi : TI} {g : TG} {tt : TT} {te : TE} {use : Option (Value → Sem Unit)} {Qf : Value → Shared → Prop}
    (hot : L2H.HotC X) (hN : X.N.Nodup) (I : Inv X pins σ H s) (hi : L2H.PIH X tg iter wi) (ok : BlkOk X.N X.env.scope scope own)
    (pg : ∀ s H C cl fp, PG (blkH X s H scope (compEnvC scope cl C X.env) fp) tg g) (pt : ∀ s H C cl fp, PTs (blkH X s H scope (compEnvC scope cl C X.env) fp) ifs tt) (pe : ∀ s H C cl fp, PE (blkH X s H scope (compEnvC scope cl C X.env) fp) elt te)
    (hs : ∀ x, foldedSetIterable iter X.env x = pure x) (h : tLc wi g tt te (own.map (·.2)) σ H Q)
    (then_ : ∀ D C s' m H', Inv X pins σ H' s' → Q (.ref D) H' → s'.heap.Ns C m → FpOk X pins H' C → compPost (model X.prog X.w) X.A X.xe use Qf (.ref D) C (.ok .next) s') :
    wpAny (model X.prog X.w) X.A (comprehension (.ListComp elt [⟨tg, iter, ifs, 0⟩] scope pos) scope X.env pos' (newList []) false (eval iter X.env) use) Qf X.xe s := by
  have cells : ∀ y ∈ scope.names, y.2 = .free → ∃ c, X.env.cells.lookup y.1 = some c := fun y hy e => I.ok.has _ (ok.free y hy e)
  refine wpAny_comprehension_free (use := use) rfl hs (closure_ok cells) ok.kind (fun y hy e => by rw [ok.uniq y hy, e]) (thn (hi.run pins s σ H _ I h) fun _ s1 begun => thn begun fun _ s2 there => ?_)
  obtain ⟨it, fp, tn, J, H2, e, I2, T, st2, free2, q⟩ := there
  subst e
  refine wpAny_newObj_type (newEnv_comp ?_) (Nat.zero_le _)
  obtain ⟨W, ⟨m0, w0⟩, turn⟩ := q s2.heap.objs.size (I2.hok.fresh (Nat.le_refl _))
  have I3 : Inv X pins σ (upd H2 s2.heap.objs.size (.lst [])) { s2 with heap := s2.heap.push { cls := .type "list", data := .seq ([] : List Value).toArray } } :=
    I2.laid (t' := s2.toks) (fun b o e => Heap.get?_push_of_some _ e) (Nat.le_refl _) ⟨Nat.zero_le _, [], 0, .nil, Heap.get?_push_size _ rfl⟩
  have small : ∀ b ∈ fp, b < s2.heap.objs.size := fun b hb => Heap.lt_size (T.obj _ _ st2 b hb).choose_spec.1
  have free3 : ∀ b ∈ fp, FpOk X pins (upd H2 s2.heap.objs.size (.lst [])) b ∧ b < (s2.heap.push { cls := .type "list", data := .seq ([] : List Value).toArray }).objs.size := fun b hb =>
    ⟨⟨by rw [upd_ne (Nat.ne_of_lt (small b hb))]; exact (free2 b hb).1, (free2 b hb).2⟩, by rw [Heap.size_push]; exact Nat.lt_succ_of_lt (small b hb)⟩
  have I4 := startH I3 ok hN free3
  have st4 := T.keep 0 s2.heap (pushCells ((s2.heap.push { cls := .type "list", data := .seq ([] : List Value).toArray }).push { cls := .type "dict", data := .dict #[] }) scope.names) st2 fun b _ o e => pushCells_keeps _ _ _ _ (Heap.get?_push_of_some _ (Heap.get?_push_of_some _ e))
  have back : ∀ s' H', Inv (blkH X { s2 with heap := s2.heap.push { cls := .type "list", data := .seq ([] : List Value).toArray } } (upd H2 s2.heap.objs.size (.lst [])) scope (compEnvC scope (cellsFrom ((s2.heap.push { cls := .type "list", data := .seq ([] : List Value).toArray }).objs.size + 1) scope.names (cloFrom X.env.cells scope.names [])) (s2.heap.push { cls := .type "list", data := .seq ([] : List Value).toArray }).objs.size X.env) fp) [] (wipe σ (own.map (·.2))) H' s' → Q (.ref s2.heap.objs.size) H' → compPost (model X.prog X.w) X.A X.xe use Qf (.ref s2.heap.objs.size) (s2.heap.push { cls := .type "list", data := .seq ([] : List Value).toArray }).objs.size (.ok .next) s' := fun s' H' I6 done => by
    have I7 : Inv X pins σ H' s' := I3.call' (ch := fp) I6.os I6.base I6.hok I6.bare fun b hb => ⟨(free3 b hb).1.2.2.2.1, (free3 b hb).1.2.1, (free3 b hb).1.2.2.2.2.1, (free3 b hb).1.2.2.2.2.2⟩
    obtain ⟨m, names, _⟩ := I6.loc
    exact then_ _ _ s' m H' I7 done names (I3.fpOk (Nat.le_refl _) I6.free)
  have loop := block_loop (σ := σ) (vs := own.map (·.2)) (R := compPost (model X.prog X.w) X.A X.xe use Qf (.ref s2.heap.objs.size) (s2.heap.push { cls := .type "list", data := .seq ([] : List Value).toArray }).objs.size) (scope := scope) (pos := pos) (iter := iter) (Y := blkH X _ _ scope _ fp) hot rfl rfl T (pg _ _ _ _ _) (pt _ _ _ _ _) (pe _ _ _ _ _) (fun b hb p hp => (free3 b hb).1.2.2.2.2.2 p (List.mem_append_left _ hp)) I4 st4 (fun b hb => (free3 b hb).1.1) w0 turn back
  exact codeAny_compStart_list loop (T.self X.A 0 _ _ _ st4 loop)
theorem pe_lcH {elt tg iter : Expr} {ifs : List Expr} {scope : Scope} {own : List (Str × Nat)} {pos : Pos} {wi : TI} {g : TG} {tt : TT} {te : TE} (hot : L2H.HotC X) (hN : X.N.Nodup) (hi : L2H.PIH X tg iter wi) (ok : BlkOk X.N X.env.scope scope own)
    (pg : ∀ s H C cl fp, PG (blkH X s H scope (compEnvC scope cl C X.env) fp) tg g) (pt : ∀ s H C cl fp, PTs (blkH X s H scope (compEnvC scope cl C X.env) fp) ifs tt) (pe : ∀ s H C cl fp, PE (blkH X s H scope (compEnvC scope cl C X.env) fp) elt te)
    (hs : ∀ x, foldedSetIterable iter X.env x = pure x := by intro _; rfl) : PE X (.ListComp elt [⟨tg, iter, ifs, 0⟩] scope pos) (tLc wi g tt te (own.map (·.2))) :=
  ⟨fun pins s σ H Q I h => by
    rw [eval_ListComp]
    exact lc_hot hot hN I hi ok pg pt pe hs h fun D C s' m H' I' q names f => ⟨m, names, fun h'' same => ⟨.ref D, H', I'.turned (t' := s'.toks) (fun b o nb e => (same.2 b nb).trans e) f.1 f.2.1 f.2.2.2.1 f.2.2.2.2.1 f.2.2.2.2.2, rfl, q⟩⟩⟩
end
section
variable {X : Cx}
/-- name = [..] on one line where an exception is handled, the name a local -/
theorem ps_setLcH {i : Nat} {y : Str} {py : Pos} {elt tg iter : Expr} {ifs : List Expr} {scope : Scope} {own : List (Str × Nat)} {pos spos : Pos} {wi : TI} {g : TG} {tt : TT} {te : TE} (hot : L2H.HotC X) (hN : X.N.Nodup) (at_i : X.N[i]? = some y) (local_ : X.env.scope.names.lookup y = some .local)
    (swaps : swapsWith (.ListComp elt [⟨tg, iter, ifs, 0⟩] scope pos) (some (.Name y py)) spos.line X.env = pure true) (hi : L2H.PIH X tg iter wi) (ok : BlkOk X.N X.env.scope scope own)
    (pg : ∀ s H C cl fp, PG (blkH X s H scope (compEnvC scope cl C X.env) fp) tg g) (pt : ∀ s H C cl fp, PTs (blkH X s H scope (compEnvC scope cl C X.env) fp) ifs tt) (pe : ∀ s H C cl fp, PE (blkH X s H scope (compEnvC scope cl C X.env) fp) elt te)
    (hs : ∀ x, foldedSetIterable iter X.env x = pure x := by intro _; rfl) : PS X (.Assign [.Name y py] (.ListComp elt [⟨tg, iter, ifs, 0⟩] scope pos) spos) (tAsg (tLc wi g tt te (own.map (·.2))) (gName i)) :=
  ⟨fun pins s σ H D I h => by
    rw [exec_Assign_Name_used _ _ _ _ swaps]
    have stored := lc_hot (pos := pos) (pos' := firstIterPos [⟨tg, iter, ifs, 0⟩] pos) (use := some (assign (.Name y py) X.env)) (Qf := fun _ s' => SP X pins D .next s') hot hN I hi ok pg pt pe hs (show tLc wi g tt te (own.map (·.2)) σ H (fun x H1 => gName i x σ H1 D.nx) from h) fun L C s' m H' I' q names f => by
      refine wpAny_assign_Name (store_ok2 (v := V.ref L) I' hN at_i (.inl local_) rfl (fun s2 I2 ⟨a, same, where_⟩ => ?_) (.inr local_))
      have apart : C ≠ a := where_.elim (fun z => by rw [z]; exact f.2.1) fun z e => f.2.2.2.2.1 y a z e.symm
      exact ⟨m, names.sameBut same apart, fun h3 same3 => ⟨_, H', I2.turned (t' := s2.toks) (fun b o nb e => (same3.2 b nb).trans e) f.1 f.2.1 f.2.2.2.1 f.2.2.2.2.1 f.2.2.2.2.2, q⟩⟩
    exact wpAny_bind (wpAny_standAt (wpAny_bind (wpAny_bind (thn stored fun _ s' done => wpAny_pure (wpAny_pure done)))))⟩
end
/-! ### a, b = a tuple, where an exception is handled -/
theorem unpack_hot {prog : Program} {w : World} {A : Around} {E : Value → Shared → Prop} {s : Shared} {x1 t : Addr} {items : Array Value} {targets : List (Bool × (Value → Sem Unit))} {Q : Unit → Shared → Prop} (hot : HotX.HotAt A x1 s.heap) (tup : s.heap.IsTuple t items)
    (many : targets.length = items.size) (plain : targets.findIdx? (·.1) = none) (q : ∀ h', Heap.ExtBut s.heap.objs.size s.heap h' → wpAny (model prog w) A (assignInOrder (targets.map (·.2)) items.toList) Q E { s with heap := h' }) :
    wpAny (model prog w) A (unpack (.ref t) targets) Q E s := by
  obtain ⟨hh, o1, vs1, g1, d1, c1⟩ := hot
  have apart : t ≠ s.heap.objs.size := Nat.ne_of_lt (Heap.lt_size tup.choose_spec.1)
  have apart1 : x1 ≠ s.heap.objs.size := Nat.ne_of_lt (Heap.lt_size g1)
  have whole : List.take items.size (List.drop 0 items.toList) = items.toList := List.take_of_length_le (by simp)
  unfold unpack unpackItems notIterableAtAll
  rw [many, plain]
  refine wpAny_bind (wpAny_holding (wpAny_bind (wpAny_bind (wpAny_specialOf tup.typeIs F.slot_tuple_iter.lookup (wpAny_pure ?_)))))
  simp only [Bool.false_eq_true, if_false]
  refine wpAny_bind (wpAny_holding (wpAny_pyIter_tuple tup (wpAny_bind (wpAny_holding (wpAny_draw_tuple apart items.size 0 _ _ ⟨_, Heap.get?_push_size _ rfl, rfl, rfl⟩ (tup.push _) (by omega) fun h1 it1 same => ?_)))))
  rw [whole, if_neg (by simp)]
  have g1' : h1.get? x1 = some o1 := same.extBut _ _ apart1 (Heap.get?_push_of_some _ g1)
  refine wpAny_bind (wpAny_holding (tuple_end (s := { s with heap := h1 }) ⟨hh, o1, vs1, g1', d1, c1⟩ it1 ((tup.push _).extBut same.extBut apart) (by simp) apart1 fun h2 ext => ?_))
  exact wpAny_pure (q h2 fun b o n e => ext b o n (same.extBut b o n (Heap.get?_push_of_some _ e)))
section
variable {X : Cx}
theorem pg_tupH {es : List Expr} {k : Nat} {pos : Pos} {t : TGs} {n : Nat} (hot : L2H.HotC X) (h : PGs X es t) (many : (assignEach es X.env).length = n := by rfl) (plain : (assignEach es X.env).findIdx? (·.1) = none := by rfl) : PG X (.Tuple es k pos) (gTup X.K n t) :=
  ⟨fun pins s σ H v u Q I r given => by
    obtain ⟨a, xs, ev, seq, len, q⟩ := given
    subst ev
    cases r
    obtain ⟨its, rel, tup, _⟩ := I.tuple seq
    obtain ⟨x1, at_⟩ := hot.at I
    rw [arm_assign_Tuple]
    refine wpAny_bind (wpAny_standAt (unpack_hot at_ (show s.heap.IsTuple a its.toArray from tup) (by simp [many, ← len, rel.length]) plain fun h' ext => ?_))
    have I1 : Inv X pins σ H { s with heap := h' } := I.kept (t' := s.toks) fun b o e => ext b o (Nat.ne_of_lt (Heap.lt_size e)) e
    exact h.run pins _ σ H xs _ Q I1 (by simpa using rel) q⟩
end
/-! ### draws of a list where an exception is handled (for zip) -/
section
variable {prog : Program} {w : World} {A : Around} {E : Value → Shared → Prop} {s : Shared} {x1 it l : Addr} {i : Nat} {items : Array Value}
theorem list_draw_end {Q : Value → Shared → Prop} (hot : HotX.HotAt A x1 s.heap) (I : s.heap.IsListIter it l i) (L : s.heap.IsList l items) (past : items[i]? = none) (apart : x1 ≠ it)
    (q : ∀ h' e, Heap.ExtBut it s.heap h' → (∃ o, h'.get? e = some o ∧ o.cls = .type "StopIteration") → E (.ref e) { s with heap := h' }) : wpAny (model prog w) A (Builtin.SmallTypes.nextOf (.ref it)) Q E s := by
  have T := I.typeIs
  obtain ⟨oi, gi, ci, di⟩ := I
  obtain ⟨ol, gl, cl, nl, dl⟩ := L
  obtain ⟨hh, o1, vs1, g1, d1, c1⟩ := hot
  have ne : (Value.ref l == Value.none) = false := rfl
  refine wpAny_bind (wpAny_callSpecial?_slot T slot_listiter_next (wpAny_call_entry slot_listiter_next T entry_listiter_next ?_ (args_listiter_next _)))
  wp_walk
  repeat first
    | (rw [di]; wp_walk)
    | (rw [dl]; wp_walk)
    | (simp only [ne, Bool.false_eq_true, if_false, Int.toNat_natCast, past]; wp_walk)
  have old : ∀ {c : Addr} {o : Obj}, (s.heap.update it (Obj.mapFields fun x => x.setIfInBounds 0 Value.none)).get? c = some o → ((s.heap.update it (Obj.mapFields fun x => x.setIfInBounds 0 Value.none)).push { cls := .type "tuple", data := .seq #[] }).get? c = some o := fun e => Heap.get?_push_of_some _ e
  have g1' := old ((Heap.get?_update_other s.heap (Obj.mapFields fun x => x.setIfInBounds 0 Value.none) apart.symm).trans g1)
  refine HotX.raiseNew_hot ⟨hh, o1, vs1, Heap.get?_push_of_some _ g1', d1, c1⟩ (Nat.ne_of_lt (Heap.lt_size g1')) (Heap.get?_push_size _ rfl) rfl (by simp; omega) (q _ _ (fun c o n e => ?_) ⟨_, Heap.get?_update_self _ (Heap.get?_push_size _ rfl) rfl, rfl⟩)
  have e' := old ((Heap.get?_update_other s.heap (Obj.mapFields fun x => x.setIfInBounds 0 Value.none) n.symm).trans e)
  exact (Heap.get?_update_other _ _ (Nat.ne_of_gt (Heap.lt_size e'))).trans (Heap.get?_push_of_some _ e')
/-- the handled exception's object as it stands -/
def Clear (x1 : Addr) (h : Heap) : Prop := ∃ (o : Obj) (vs : Array Value), h.get? x1 = some o ∧ o.data = .fields vs ∧ vs[2]? = some .none
theorem draws_listH (hh : A.handled = some (.ref x1)) (n1 : l ≠ it) (n2 : x1 ≠ it) :
    Draws prog w A it [it, l, x1] items.size (fun i v => items[i]? = some v) (fun i h => h.IsListIter it l i ∧ h.IsList l items ∧ Clear x1 h) := by
  refine ⟨fun i h st => ⟨_, st.1.choose_spec.1⟩, fun i h h' st k => ?_, fun i s Q E lt st q => ?_, fun s Q E st q => ?_⟩
  · simp only [List.forall_mem_cons] at k
    obtain ⟨o, vs, g, r⟩ := st.2.2
    exact ⟨st.1.at k.1, st.2.1.at k.2.1, o, vs, k.2.2.1 o g, r⟩
  · refine wpAny_nextOf_list_item st.1 st.2.1 (x := items[i]) (by simp [lt]) fun h' next same => q _ h' s.toks (by simp [lt]) ⟨next, st.2.1.extBut same.extBut n1, ?_⟩ same
    obtain ⟨o, vs, g, r⟩ := st.2.2
    exact ⟨o, vs, same.extBut _ _ n2 g, r⟩
  · exact list_draw_end ⟨hh, st.2.2⟩ st.1 st.2.1 (by simp) n2 q
end
/-! ### zip of two lists where an exception is handled -/
/-- what a turn of pairs wants of a state in which the iterator z stands at i: a walk there, whose values are told by J -/
def PairsAt (X : Cx) (H : Hp) (s : Shared) (J : It) (z : Addr) (wr : List Addr) (tn : Nat → Heap → Prop) (i : Nat) : Prop :=
  ∃ (n : Nat) (Pt : Nat → Array Value → Prop) (St : Nat → Heap → Prop) (Mid : Nat → Addr → Heap → Prop) (fp : List Addr), WalksT X.prog X.w X.A z fp wr n Pt St Mid ∧ St i s.heap ∧ (∀ j h, St j h → tn j h) ∧ (J.stop i H → i = n) ∧
    (J.go i H → i < n ∧ ∀ vals, Pt i vals → ∃ xs, Vals xs vals.toList ∧ xs.length = 2 ∧ ∀ T, H T = none → J.yld i H (.ref T) (upd H T (.tup xs)))
theorem turnH_pairs {P : Program} {w : World} {K : PySem.W.Frag} {elts : List Expr} {kk : Nat} {tpos : Pos} {J : It} {z : Addr} {fp wr : List Addr} {tn : Nat → Heap → Prop}
    (mem : z ∈ fp) (sub : ∀ c ∈ wr, c ∈ fp) (obj : ∀ i h, tn i h → ∀ b ∈ fp, ∃ o, h.get? b = some o ∧ ∀ v, o.data ≠ .cell v) (keep : ∀ i h h', tn i h → (∀ b ∈ fp, ∀ o, h.get? b = some o → h'.get? b = some o) → tn i h')
    (self : ∀ (A : Around) (i : Nat) (s : Shared) (Q : Value → Shared → Prop) (E : Value → Shared → Prop), tn i s.heap → Q (.ref z) s → wpAny (model P w) A (pyIter (.ref z)) Q E s)
    (src : ∀ X : Cx, X.prog = P → X.w = w → X.K = K → L2H.HotC X → ∀ i pins s σ H, Inv X pins σ H s → (∀ b ∈ fp, FpOk X pins H b) → tn i s.heap → (J.go i H ∨ J.stop i H) → PairsAt X H s J z wr tn i) : L2H.TurnH P w K (.Tuple elts kk tpos) J fp z tn := by
  refine ⟨mem, obj, keep, fun X e1 e2 e3 hot i pins s σ H E I free st go => ?_, fun X e1 e2 e3 hot i pins s σ H E I free st stop => ?_, self⟩
  · obtain ⟨n, Pt, St, Mid, fpW, W, here, back, _, told⟩ := src X e1 e2 e3 hot i pins s σ H I free st (.inl go)
    obtain ⟨lt, told⟩ := told go
    subst e1 e2
    have old : ∀ c ∈ fp, c < s.heap.objs.size := fun c hc => Heap.lt_size (obj i _ st c hc).choose_spec.1
    refine W.item i s _ _ lt here fun T vals h1 tk pt new tup mid kept => ⟨_, rfl, W.go elts kk tpos i T _ _ _ mid fun h2 st2 kept2 => ?_⟩
    obtain ⟨xs, rel, two, yields⟩ := told vals pt
    have none_T := I.hok.fresh new
    obtain ⟨o, at_T, r⟩ := tup
    have ob : ObjOk X.prog X.w (upd H T (.tup xs)) h2 T (.tup xs) := ⟨by rw [two]; decide, vals.toList, rel, o, kept2 T o (W.apart i T _ mid) at_T, r⟩
    refine ⟨.ref T, _, I.turnedNew (t' := tk) (ch := wr) (fun b o nb e => kept2 b o nb (kept b o nb e)) (fun b hb => free b (sub b hb)) new ob, rfl, yields T none_T, back _ _ st2, fun b hb => ?_⟩
    rw [upd_ne (Nat.ne_of_lt (Nat.lt_of_lt_of_le (old b hb) new))]
    exact (free b hb).1
  · obtain ⟨n, Pt, St, Mid, fpW, W, here, _, ends, _⟩ := src X e1 e2 e3 hot i pins s σ H I free st (.inr stop)
    subst e1 e2
    have e := ends stop
    subst e
    exact W.done s _ _ here fun h' tk kept => ⟨rfl, I.turnedL (t' := tk) (ch := wr) kept fun b hb => free b (sub b hb)⟩
/-- the lists at a and b side by side, in new pairs, to the end of the shorter -/
def ItzL (K : PySem.W.Frag) (a b : Addr) : It :=
  ⟨fun i H => ∃ xs ys : List V, SqL K H a xs ∧ SqL K H b ys ∧ i < min xs.length ys.length,
    fun i H v H' => ∃ T x y, v = .ref T ∧ H T = none ∧ H' = upd H T (.tup [x, y]) ∧ (∀ xs, SqL K H a xs → xs[i]? = some x) ∧ ∀ ys, SqL K H b ys → ys[i]? = some y,
    fun i H => ∃ xs ys : List V, SqL K H a xs ∧ SqL K H b ys ∧ i = min xs.length ys.length⟩
/-- how the iterator stands at turn i -/
structure ZAt (z TI TO i1 i2 a b : Addr) (i : Nat) (h : Heap) : Prop where
  zip : IsZip h z TI TO .none
  its : IsTupOf2 h TI (.ref i1) (.ref i2)
  out : ∃ x y, IsTupOf2 h TO x y
  left : h.IsListIter i1 a i
  right : h.IsListIter i2 b i
theorem turnH_zip {P : Program} {w : World} {K : PySem.W.Frag} {elts : List Expr} {kk : Nat} {tpos : Pos} {a b z TI TO i1 i2 : Addr} (S : ZipSep2 z TI TO i1 i2 [i1, a] [i2, b]) (n1 : a ≠ i1) (n2 : b ≠ i2) :
    L2H.TurnH P w K (.Tuple elts kk tpos) (ItzL K a b) [z, TI, TO, i1, i2] z (ZAt z TI TO i1 i2 a b) := by
  refine turnH_pairs (wr := [z, TO, i1, i2]) (by simp) (by simp) (fun i h st c hc => ?_) (fun i h h' st k => ?_) (fun _ _ _ _ _ st q => wpAny_pyIter_zip st.zip q) (fun X e1 e2 e3 hot i pins s σ H I free st either => ?_)
  · have cell : ∀ {c : Addr} {u : Obj}, h.get? c = some u → (∀ v, u.data ≠ .cell v) → ∃ o, h.get? c = some o ∧ ∀ v, o.data ≠ .cell v := fun e n => ⟨_, e, n⟩
    obtain ⟨_, _, out⟩ := st.out
    obtain ⟨_, g1, _, k1⟩ := st.left
    obtain ⟨_, g2, _, k2⟩ := st.right
    simp only [List.mem_cons, List.not_mem_nil, or_false] at hc
    rcases hc with rfl | rfl | rfl | rfl | rfl
    · exact cell st.zip nofun
    · exact cell st.its nofun
    · exact cell out nofun
    · exact cell g1 (by rw [k1]; exact nofun)
    · exact cell g2 (by rw [k2]; exact nofun)
  · obtain ⟨x, y, out⟩ := st.out
    simp only [List.forall_mem_cons] at k
    exact ⟨k.1 _ st.zip, k.2.1 _ st.its, ⟨x, y, k.2.2.1 _ out⟩, st.left.at k.2.2.2.1, st.right.at k.2.2.2.2.1⟩
  · subst e1 e2 e3
    obtain ⟨xs, ys, seq1, seq2⟩ : ∃ xs ys : List V, SqL X.K H a xs ∧ SqL X.K H b ys := by
      rcases either with ⟨xs, ys, h1, h2, _⟩ | ⟨xs, ys, h1, h2, _⟩
      · exact ⟨xs, ys, h1, h2⟩
      · exact ⟨xs, ys, h1, h2⟩
    obtain ⟨its1, rel1, list1, _⟩ := I.list seq1
    obtain ⟨its2, rel2, list2, _⟩ := I.list seq2
    have len1 := rel1.length
    have len2 := rel2.length
    obtain ⟨p, ⟨hh, vs, data, none_⟩, mem⟩ := hot
    have both := List.mem_append_left pins mem
    have far : ∀ c ∈ [z, TI, TO, i1, i2], p.1 ≠ c := fun c hc => (free c hc).2.2.2.2.2 p both
    simp only [List.forall_mem_cons] at far
    have clear : Clear p.1 s.heap := ⟨p.2, vs, (I.pin p both).1, data, none_⟩
    have S' : ZipSep2 z TI TO i1 i2 [i1, a, p.1] [i2, b, p.1] := by
      have add : ∀ {c d e : Addr}, c ∉ [d, e] → p.1 ≠ c → c ∉ [d, e, p.1] := fun h n m => by
        simp only [List.mem_cons, List.not_mem_nil, or_false, not_or] at h m
        rcases m with m | m | m
        · exact h.1 m
        · exact h.2 m
        · exact n m.symm
      exact ⟨S.TIz, S.TOz, S.TITO, S.TIi1, List.mem_cons_self, add S.zf1 far.1, add S.Tf1 far.2.2.1, S.TIi2, List.mem_cons_self, add S.zf2 far.1, add S.Tf2 far.2.2.1, add S.sep1_2 far.2.2.2.1, add S.sep2_1 far.2.2.2.2.1⟩
    obtain ⟨x, y, out⟩ := st.out
    have few : min its1.toArray.size its2.toArray.size = min xs.length ys.length := by
      rw [List.size_toArray, List.size_toArray, len1, len2]
    have hh' : X.A.in1.handled = some (.ref p.1) := hh
    refine ⟨_, _, _, _, _, WalksT.zipD2 S' (draws_listH (items := its1.toArray) hh' n1 far.2.2.2.1) (draws_listH (items := its2.toArray) hh' n2 far.2.2.2.2.1), ⟨st.zip, st.its, ⟨x, y, out⟩, ⟨st.left, list1.isList, clear⟩, ⟨st.right, list2.isList, clear⟩⟩, fun j h q => ⟨q.1, q.2.1, q.2.2.1, q.2.2.2.1.1, q.2.2.2.2.1⟩, fun q => ?_, fun q => ⟨?_, fun vals pt => ?_⟩⟩
    · obtain ⟨xs', ys', s1, s2, e⟩ := q
      rw [I.list_inj s1 seq1, I.list_inj s2 seq2] at e
      rw [few, e]
    · obtain ⟨xs', ys', s1, s2, lt⟩ := q
      rw [I.list_inj s1 seq1, I.list_inj s2 seq2] at lt
      rw [few]
      exact lt
    · obtain ⟨xs', ys', s1, s2, lt⟩ := q
      rw [I.list_inj s1 seq1, I.list_inj s2 seq2] at lt
      obtain ⟨u1, u2, at_1, at_2, rfl⟩ := pt
      have at_x : xs[i]? = some (xs[i]'(by omega)) := List.getElem?_eq_getElem _
      have at_y : ys[i]? = some (ys[i]'(by omega)) := List.getElem?_eq_getElem _
      obtain ⟨v1, at_v1, r1⟩ := rel1.get at_x
      obtain ⟨v2, at_v2, r2⟩ := rel2.get at_y
      have e1 : v1 = u1 := Option.some.inj (by rw [← at_v1, ← at_1]; simp)
      have e2 : v2 = u2 := Option.some.inj (by rw [← at_v2, ← at_2]; simp)
      subst e1 e2
      exact ⟨_, .cons r1 (.cons r2 .nil), rfl, fun T none_T => ⟨T, _, _, rfl, none_T, rfl, fun zs q => by rw [I.list_inj q seq1]; exact at_x, fun zs q => by rw [I.list_inj q seq2]; exact at_y⟩⟩
def iZipL (K : PySem.W.Frag) (ta : TA) : TI := fun σ H R => ta σ H fun vs H1 => ∃ a b xs ys, vs = [.ref a, .ref b] ∧ SqL K H1 a xs ∧ SqL K H1 b ys ∧ R (ItzL K a b) H1
/-- a built-in class called with two values -/
theorem call_two {X : Cx} {T : String} {n : Str} {e e2 : Expr} {ta : TA} {p pos : Pos} {pins : List (Addr × Obj)} {σ : L2.St} {H : Hp} {s : Shared} {Q : List V → Hp → Prop} {R : Value → Shared → Prop} (hg : Gl X n) (hm : X.mg n = none) (hv : bootBuiltins n = some (.type T)) (ha : PA X [e, e2] ta) (I : Inv X pins σ H s) (h : ta σ H Q)
    (k : ∀ us vs s1 H1, Inv X pins σ H1 s1 → Vals vs us → Q vs H1 → wpAny (model X.prog X.w) X.A (call (.type T) us) R X.xe s1) (n1 : n ≠ "__name__") (n2 : (n == ("__debug__" : Str)) = false)
    (hs : starEach [e, e2] X.env = (false, eval e X.env) :: starEach [e2] X.env) (hpl : (backTo pos (starEach [e2] X.env)).any (·.1) = false) : wpAny (model X.prog X.w) X.A (eval (.Call (.Name n p) [e, e2] [] pos) X.env) R X.xe s := by
  have args := ha.run pos pins s σ H Q I h
  have made := thn args fun us s1 (r : ∃ vs H1, Inv X pins σ H1 s1 ∧ Vals vs us ∧ Q vs H1) => r.elim fun vs ⟨H1, I1, r1, q1⟩ => k us vs s1 H1 I1 r1 q1
  exact Call_ (ld_blt I hg hm hv (callWith_type1 made hs hpl) n1 n2)
theorem pi_zipH {X : Cx} {e e2 : Expr} {ta : TA} {p pos tpos : Pos} {elts : List Expr} {kk : Nat} (hg : Gl X "zip") (hm : X.mg "zip" = none) (ha : PA X [e, e2] ta)
    (hs : starEach [e, e2] X.env = (false, eval e X.env) :: starEach [e2] X.env := by rfl)
    (hpl : (backTo pos (starEach [e2] X.env)).any (·.1) = false := by rfl) :
    L2H.PIH X (.Tuple elts kk tpos) (.Call (.Name "zip" p) [e, e2] [] pos) (iZipL X.K ta) := ⟨fun pins s σ H R I h => call_two hg hm PyProof.Rows.boot_zip ha I h (fun us vs s1 H1 I1 rel ⟨a, b, xs, ys, ev, seq1, seq2, q⟩ => by
  subst ev
  obtain ⟨u1, us, rfl, r1, rel⟩ : ∃ u1 r, us = u1 :: r ∧ RelV (.ref a) u1 ∧ Vals [.ref b] r := by cases rel with | cons a b => exact ⟨_, _, rfl, a, b⟩
  obtain ⟨u2, rfl, r2⟩ := rel.one
  cases r1
  cases r2
  obtain ⟨its1, _, list1, _⟩ := I1.list seq1
  obtain ⟨its2, _, list2, _⟩ := I1.list seq2
  have la : a < s1.heap.objs.size := list1.lt
  have lb : b < s1.heap.objs.size := list2.lt
  refine zip_begins2 (begins_list a its1.toArray) (begins_list b its2.toArray) list1.isList list2.isList fun h' zip its' out g1 g2 _ kept => wpAny_pyIter_zip zip ?_
  have new : ∀ c ∈ [s1.heap.objs.size + 4, s1.heap.objs.size + 2, s1.heap.objs.size + 3, s1.heap.objs.size, s1.heap.objs.size + 1], s1.heap.objs.size ≤ c := by
    simp only [List.forall_mem_cons, List.not_mem_nil, false_imp_iff, implies_true, and_true]
    exact ⟨Nat.le_add_right .., Nat.le_add_right .., Nat.le_add_right .., Nat.le_refl _, Nat.le_add_right ..⟩
  exact ⟨_, _, _, _, H1, rfl, I1.kept (t' := s1.toks) kept, turnH_zip (zip_sep2 (fp1 := [a]) (fp2 := [b]) (by simpa using la) (by simpa using lb)) (Nat.ne_of_lt la) (Nat.ne_of_lt (Nat.lt_succ_of_lt lb)), ⟨zip, its', ⟨_, _, out⟩, ⟨_, g1, rfl, rfl⟩, ⟨_, g2, rfl, rfl⟩⟩, fun c hc => I1.fpOk (new c hc) (I1.hok.fresh (new c hc)), q⟩) (by decide) (by decide) hs hpl⟩
theorem walk_zipL {K : PySem.W.Frag} {a b : Addr} {xs ys : List V} : Walk (ItzL K a b) (min xs.length ys.length) (fun H => SqL K H a xs ∧ SqL K H b ys) (YPair (fun i => xs[i]?) (fun i => ys[i]?)) := by
  refine ⟨fun i H lt q => ⟨xs, ys, q.1, q.2, lt⟩, fun H q => ⟨xs, ys, q.1, q.2, rfl⟩, fun i H v H' lt q y => ?_⟩
  obtain ⟨T, x, y, e, none_T, made, at_x, at_y⟩ := y
  exact ⟨T, x, y, e, none_T, made, at_x xs q.1, at_y ys q.2⟩
/-! ### the library's walks (what any, all, sum, min, max, list, set ask) where an exception is handled -/
section
variable {prog : Program} {w : World} {A : Around} {x1 I l : Addr} {items : Array Value}
theorem walks_listH (hh : A.handled = some (.ref x1)) (n1 : l ≠ I) (n2 : x1 ≠ I) :
    Walks prog w A I [I, l, x1] [I] items.size (fun i v => items[i]? = some v) (fun i h => h.IsListIter I l i ∧ h.IsList l items ∧ Clear x1 h) := by
  refine ⟨fun b hb => List.mem_singleton.mp hb ▸ List.mem_cons_self, fun i h h' st k => ?_, fun i s Q E lt st q => ?_, fun s Q E st q => ?_, fun i s Q E st q => wpAny_pyIter_listiter st.1 q⟩
  · simp only [List.forall_mem_cons] at k
    obtain ⟨o, vs, g, r⟩ := st.2.2
    exact ⟨st.1.at k.1, st.2.1.at k.2.1, o, vs, k.2.2.1 o g, r⟩
  · refine wpAny_pyNext_list_item st.1 st.2.1 (x := items[i]) (by simp [lt]) fun h' next same => q _ h' s.toks (by simp [lt]) ⟨next, st.2.1.extBut same.extBut n1, ?_⟩ fun b o nb e => same.extBut b o (fun z => nb (z ▸ List.mem_singleton_self _)) e
    obtain ⟨o, vs, g, r⟩ := st.2.2
    exact ⟨o, vs, same.extBut _ _ n2 g, r⟩
  · exact list_end ⟨hh, st.2.2⟩ st.1 st.2.1 (by simp) n2 fun h' ext => q h' s.toks fun b o nb e => ext b o (fun z => nb (z ▸ List.mem_singleton_self _)) e
theorem walks_tupleH (hh : A.handled = some (.ref x1)) (n1 : l ≠ I) (n2 : x1 ≠ I) :
    Walks prog w A I [I, l, x1] [I] items.size (fun i v => items[i]? = some v) (fun i h => h.IsTupleIter I l i ∧ h.IsTuple l items ∧ Clear x1 h) := by
  refine ⟨fun b hb => List.mem_singleton.mp hb ▸ List.mem_cons_self, fun i h h' st k => ?_, fun i s Q E lt st q => ?_, fun s Q E st q => ?_, fun i s Q E st q => wpAny_pyIter_tupleiter st.1 q⟩
  · simp only [List.forall_mem_cons] at k
    obtain ⟨o, vs, g, r⟩ := st.2.2
    exact ⟨st.1.at k.1, st.2.1.at k.2.1, o, vs, k.2.2.1 o g, r⟩
  · refine wpAny_pyNext_tuple_item st.1 st.2.1 (x := items[i]) (by simp [lt]) fun h' next same => q _ h' s.toks (by simp [lt]) ⟨next, st.2.1.extBut same.extBut n1, ?_⟩ fun b o nb e => same.extBut b o (fun z => nb (z ▸ List.mem_singleton_self _)) e
    obtain ⟨o, vs, g, r⟩ := st.2.2
    exact ⟨o, vs, same.extBut _ _ n2 g, r⟩
  · exact tuple_end ⟨hh, st.2.2⟩ st.1 st.2.1 (by simp) n2 fun h' ext => q h' s.toks fun b o nb e => ext b o (fun z => nb (z ▸ List.mem_singleton_self _)) e
end
section
variable {X : Cx}
/-- all(bools) -/
theorem cr_allH (hot : L2H.HotC X) : CallR X (.builtin "all") (rAll X.K) := fun pins s σ H vs us Q I r h => by
  obtain ⟨a, bs, rfl, seq, q⟩ := h
  obtain ⟨its, rel, list, _⟩ := I.list seq
  rw [Vals.ref1 r]
  have bools := rel.bls
  obtain ⟨x1, hh, clear⟩ := hot.at I
  refine call_all_walk (iter_any list.isList fun s2 e st apart => ?_)
  subst e
  obtain ⟨o, vs, g, rest⟩ := clear
  refine ⟨_, _, _, _, _, _, _, rfl, walks_listH (A := X.A.in1) (l := a) (items := its.toArray) hh apart (Nat.ne_of_lt (Heap.lt_size g)), ⟨st.1, st.2, o, vs, Heap.get?_push_of_some _ g, rest⟩, truth_bools bools, fun h' tk kept => ?_⟩
  refine ⟨.bl _, H, I.kept fun b o eo => kept b o (fun mem => absurd (Heap.lt_size eo) (by rw [List.mem_singleton.mp mem]; exact Nat.lt_irrefl _)) (Heap.get?_push_of_some _ eo), ?_, q⟩
  show Value.bool _ = Value.bool _
  rw [← L2.all_range, bools, List.size_toArray, List.length_map]
theorem cr_anyH (hot : L2H.HotC X) : CallR X (.builtin "any") (rAny X.K) := fun pins s σ H vs us Q I r h => by
  obtain ⟨a, bs, rfl, seq, q⟩ := h
  obtain ⟨its, rel, list, _⟩ := I.list seq
  rw [Vals.ref1 r]
  have bools := rel.bls
  obtain ⟨x1, hh, clear⟩ := hot.at I
  refine call_any_walk (iter_any list.isList fun s2 e st apart => ?_)
  subst e
  obtain ⟨o, vs, g, rest⟩ := clear
  refine ⟨_, _, _, _, _, _, _, rfl, walks_listH (A := X.A.in1) (l := a) (items := its.toArray) hh apart (Nat.ne_of_lt (Heap.lt_size g)), ⟨st.1, st.2, o, vs, Heap.get?_push_of_some _ g, rest⟩, truth_bools bools, fun h' tk kept => ?_⟩
  refine ⟨.bl _, H, I.kept fun b o eo => kept b o (fun mem => absurd (Heap.lt_size eo) (by rw [List.mem_singleton.mp mem]; exact Nat.lt_irrefl _)) (Heap.get?_push_of_some _ eo), ?_, q⟩
  show Value.bool _ = Value.bool _
  rw [← L2.any_range, bools, List.size_toArray, List.length_map]
end
/-! ### a def that is called where an exception is handled -/
theorem okH {P : Program} {w : World} {K : PySem.W.Frag} {mg : Str → Option Value} {base : Heap} {CX : CXT} {k : Nat} {f : Addr} {fd : FuncData} {N ps : List Str} {sp : Sp} {x qual : Str} {params : Arguments} {body : List Stmt} {scope : Scope} {dvs : List V} {kws : List (Str × V)}
    (F : FunD K x qual params body scope dvs kws f fd) (S : FnScope N ps scope) (count : ∀ vs H Q E, sp vs H Q E → vs.length = ps.length)
    (inner : ∀ (cdv : Value) (A : Around) (outer : List Env) (s : Shared) (H : Hp) (vs : List V) (Q : VK) (E : XK) (p : Addr × Obj), L2H.Hot1 A p → L2H.RoomH k (A.deeper (envOfC qual scope s.heap.objs.size f cdv)) → sp vs H Q E →
      ∃ t, PSs (L2H.cxH CX P w K mg base N qual scope f cdv A outer s H E p) body t ∧ t { nx := fun _ H' => Q .non H', rt := Q } (L2.start N vs) H) : L2H.FnH P w K mg base CX (k + 1) f fd ps sp := by
  obtain ⟨oc, od, dV, kV, doc, pm, an, cdv, ct, osl, rfl, place, code, _, _⟩ := F.ex
  exact L2H.fn_ofH place code S count (inner cdv)
/-! ### in one word -/
theorem hotC {X : Cx} {p : Addr × Obj} (h : L2H.Hot1 X.A p) (mem : p ∈ X.pn) : L2H.HotC X := ⟨p, h, mem⟩
theorem unitsH {k : Nat} {A : Around} (r : L2H.RoomH k A) : A.units + 64 < cLine := by
  have := r.un
  omega
theorem un65H {k : Nat} {A : Around} (r : L2H.RoomH k A) : A.units + 65 < cLine := by
  have := r.un
  omega
theorem huH {k : Nat} {A : Around} (r : L2H.RoomH k A) : A.units + 1 < cLine := by
  have := r.un
  omega
section
variable {X : Cx} {tg e : Expr} {te : TE} {K : PySem.W.Frag}
/-- pi_keysH, told as the library tells it where no exception is handled -/
def iKeysB (te : TE) : TI := fun σ H R => te σ H fun x H1 => ∃ d o, x = .ref d ∧ ((∃ kvs, H1 d = some (.frz o (.dK kvs)) ∧ R (Itk d o kvs) H1) ∨ False)
theorem pi_keysB (he : PE X e te) : L2H.PIH X tg e (iKeysB te) :=
  ⟨fun pins s σ H R I h => thn (he.run pins s σ H _ I h) fun v s1 ⟨x, H1, I1, r, d, o, ex, q⟩ => by
    subst ex
    cases r
    obtain ⟨kvs, lock, q⟩ | none_ := q
    · obtain ⟨lo, there, plain, es, ep, vs, data, size, _, _⟩ := I1.frzK lock
      exact iter_keys lo there plain data (begun (tk := s1.toks) I1 _ (turnH_keys _ data) ⟨_, Heap.get?_push_size _ rfl, rfl, by rw [size] <;> rfl⟩ q)
    · exact none_.elim⟩
theorem pi_listHK (hK : X.K = K) (he : PE X e te) : L2H.PIH X tg e (iList K te) := hK ▸ pi_listH he
theorem pi_tupHK (hK : X.K = K) (he : PE X e te) : L2H.PIH X tg e (iTup K te) := hK ▸ pi_tupH he
end
end UJ
-- UX
-- UJ
-- UQ
-- UL
namespace K23
open PySem L2 UW UP UT UD UG
def topS (i : Nat) : Stmt := PySem.Challenge.pw_unitwants_k23_names_of_none.main.body.getD i (.Pass ⟨0, 0, 0, 0⟩)
abbrev s_own_copy : Stmt := topS 2
abbrev N_own_copy : List Str := ["thing", "part"]
theorem sc_own_copy : FnScope N_own_copy ["thing"] (defScope s_own_copy) := ⟨rfl, rfl, rfl, by decide +kernel, rfl, by decide +kernel, by decide +kernel⟩
abbrev s_NoUnit_init : Stmt := inClass (topS 16) 0
abbrev N_NoUnit_init : List Str := ["self", "name"]
theorem sc_NoUnit_init : FnScope N_NoUnit_init ["self", "name"] (defScope s_NoUnit_init) := ⟨rfl, rfl, rfl, by decide +kernel, rfl, by decide +kernel, by decide +kernel⟩
abbrev s_Shelf_init : Stmt := inClass (topS 20) 0
abbrev N_Shelf_init : List Str := ["self", "units", "by_name", "unit"]
theorem sc_Shelf_init : FnScope N_Shelf_init ["self", "units"] (defScope s_Shelf_init) := ⟨rfl, rfl, rfl, by decide +kernel, rfl, by decide +kernel, by decide +kernel⟩
abbrev s_Shelf_names : Stmt := inClass (topS 20) 2
abbrev N_Shelf_names : List Str := ["self"]
theorem sc_Shelf_names : FnScope N_Shelf_names ["self"] (defScope s_Shelf_names) := ⟨rfl, rfl, rfl, by decide +kernel, rfl, by decide +kernel, by decide +kernel⟩
abbrev s_Shelf_has : Stmt := inClass (topS 20) 3
abbrev N_Shelf_has : List Str := ["self", "name"]
theorem sc_Shelf_has : FnScope N_Shelf_has ["self", "name"] (defScope s_Shelf_has) := ⟨rfl, rfl, rfl, by decide +kernel, rfl, by decide +kernel, by decide +kernel⟩
abbrev s_Shelf_unit : Stmt := inClass (topS 20) 4
abbrev N_Shelf_unit : List Str := ["self", "name"]
theorem sc_Shelf_unit : FnScope N_Shelf_unit ["self", "name"] (defScope s_Shelf_unit) := ⟨rfl, rfl, rfl, by decide +kernel, rfl, by decide +kernel, by decide +kernel⟩
abbrev s_Shelf_needing : Stmt := inClass (topS 20) 5
abbrev N_Shelf_needing : List Str := ["self", "name", "other"]
theorem sc_Shelf_needing : FnScope N_Shelf_needing ["self", "name"] (defScope s_Shelf_needing) := ⟨rfl, rfl, rfl, by decide +kernel, rfl, by decide +kernel, by decide +kernel⟩
abbrev s_Shelf_barred : Stmt := inClass (topS 20) 6
abbrev N_Shelf_barred : List Str := ["self", "name", "bars", "other"]
theorem sc_Shelf_barred : FnScope N_Shelf_barred ["self", "name"] (defScope s_Shelf_barred) := ⟨rfl, rfl, rfl, by decide +kernel, rfl, by decide +kernel, by decide +kernel⟩
abbrev s_Shelf_waited : Stmt := inClass (topS 20) 7
abbrev N_Shelf_waited : List Str := ["self", "name", "unit", "other"]
theorem sc_Shelf_waited : FnScope N_Shelf_waited ["self", "name"] (defScope s_Shelf_waited) := ⟨rfl, rfl, rfl, by decide +kernel, rfl, by decide +kernel, by decide +kernel⟩
abbrev s_Rule_init : Stmt := inClass (topS 22) 0
abbrev N_Rule_init : List Str := ["self", "first", "times", "top", "burst", "span"]
theorem sc_Rule_init : FnScope N_Rule_init ["self", "first", "times", "top", "burst", "span"] (defScope s_Rule_init) := ⟨rfl, rfl, rfl, by decide +kernel, rfl, by decide +kernel, by decide +kernel⟩
abbrev s_Rule_eq : Stmt := inClass (topS 22) 1
abbrev N_Rule_eq : List Str := ["self", "other"]
theorem sc_Rule_eq : FnScope N_Rule_eq ["self", "other"] (defScope s_Rule_eq) := ⟨rfl, rfl, rfl, by decide +kernel, rfl, by decide +kernel, by decide +kernel⟩
abbrev s_Unit_init : Stmt := inClass (topS 24) 0
abbrev N_Unit_init : List Str := ["self", "name", "kind", "needs", "wants", "bars", "after", "opens", "rule"]
theorem sc_Unit_init : FnScope N_Unit_init ["self", "name", "kind", "needs", "wants", "bars", "after", "opens", "rule"] (defScope s_Unit_init) := ⟨rfl, rfl, rfl, by decide +kernel, rfl, by decide +kernel, by decide +kernel⟩
abbrev s_Unit_eq : Stmt := inClass (topS 24) 1
abbrev N_Unit_eq : List Str := ["self", "other"]
theorem sc_Unit_eq : FnScope N_Unit_eq ["self", "other"] (defScope s_Unit_eq) := ⟨rfl, rfl, rfl, by decide +kernel, rfl, by decide +kernel, by decide +kernel⟩
abbrev s_law_bag : Stmt := topS 26
abbrev N_law_bag : List Str := ["_law_script", "_law_at", "_law_cell", "_law_far"]
theorem sc_law_bag : FnScope N_law_bag ["_law_script", "_law_at"] (defScope s_law_bag) := ⟨rfl, rfl, rfl, by decide +kernel, rfl, by decide +kernel, by decide +kernel⟩
abbrev s_law_take : Stmt := topS 27
abbrev N_law_take : List Str := ["_law_bag_here", "_law_size", "_law_digit", "_law_primes", "_law_stage", "_law_basis", "_law_found"]
theorem sc_law_take : FnScope N_law_take ["_law_bag_here", "_law_size"] (defScope s_law_take) := ⟨rfl, rfl, rfl, by decide +kernel, rfl, by decide +kernel, by decide +kernel⟩
abbrev s_law_name : Stmt := topS 28
abbrev N_law_name : List Str := ["_law_bag_here", "_law_letters", "_law_size", "_law_spot"]
theorem sc_law_name : FnScope N_law_name ["_law_bag_here"] (defScope s_law_name) := ⟨rfl, rfl, rfl, by decide +kernel, rfl, by decide +kernel, by decide +kernel⟩
abbrev s_law_names : Stmt := topS 29
abbrev N_law_names : List Str := ["_law_bag_here", "_law_size", "_law_found", "_law_spot", "_law_word", "_law_one"]
theorem sc_law_names : FnScope N_law_names ["_law_bag_here", "_law_size"] (defScope s_law_names) := ⟨rfl, rfl, rfl, by decide +kernel, rfl, by decide +kernel, by decide +kernel⟩
abbrev s_law_kind : Stmt := topS 30
abbrev N_law_kind : List Str := ["_law_e", "_law_some_here", "_law_words", "_law_under"]
theorem sc_law_kind : FnScope N_law_kind ["_law_e"] (defScope s_law_kind) := ⟨rfl, rfl, rfl, by decide +kernel, rfl, by decide +kernel, by decide +kernel⟩
abbrev s_law_any : Stmt := topS 31
abbrev N_law_any : List Str := ["_law_bag_here"]
theorem sc_law_any : FnScope N_law_any ["_law_bag_here"] (defScope s_law_any) := ⟨rfl, rfl, rfl, by decide +kernel, rfl, by decide +kernel, by decide +kernel⟩
abbrev s_law_rule_parts : Stmt := topS 32
abbrev N_law_rule_parts : List Str := ["_law_bag_here", "_law_some_here"]
theorem sc_law_rule_parts : FnScope N_law_rule_parts ["_law_bag_here"] (defScope s_law_rule_parts) := ⟨rfl, rfl, rfl, by decide +kernel, rfl, by decide +kernel, by decide +kernel⟩
abbrev s_law_rule : Stmt := topS 33
abbrev N_law_rule : List Str := ["_law_five"]
theorem sc_law_rule : FnScope N_law_rule ["_law_five"] (defScope s_law_rule) := ⟨rfl, rfl, rfl, by decide +kernel, rfl, by decide +kernel, by decide +kernel⟩
abbrev s_law_some : Stmt := topS 34
abbrev N_law_some : List Str := ["_law_bag_here", "_law_pool", "_law_most", "_law_left", "_law_found", "_law_turn"]
theorem sc_law_some : FnScope N_law_some ["_law_bag_here", "_law_pool", "_law_most"] (defScope s_law_some) := ⟨rfl, rfl, rfl, by decide +kernel, rfl, by decide +kernel, by decide +kernel⟩
abbrev s_law_facts : Stmt := topS 35
abbrev N_law_facts : List Str := ["_law_bag_here", "_law_most", "_law_named", "_law_strange", "_law_loose", "_law_found", "_law_word", "_law_pool", "_law_wide", "_law_musts", "_law_likes", "_law_foes", "_law_elders", "_law_sort", "_law_goal", "_law_five", "_law_one"]
theorem sc_law_facts : FnScope N_law_facts ["_law_bag_here", "_law_most"] (defScope s_law_facts) := ⟨rfl, rfl, rfl, by decide +kernel, rfl, by decide +kernel, by decide +kernel⟩
abbrev s_law_unit : Stmt := topS 36
abbrev N_law_unit : List Str := ["_law_word", "_law_facts_here", "_law_sort", "_law_musts", "_law_likes", "_law_foes", "_law_elders", "_law_goal", "_law_five", "_law_way_on"]
theorem sc_law_unit : FnScope N_law_unit ["_law_word", "_law_facts_here"] (defScope s_law_unit) := ⟨rfl, rfl, rfl, by decide +kernel, rfl, by decide +kernel, by decide +kernel⟩
abbrev s_law_units : Stmt := topS 37
abbrev N_law_units : List Str := ["_law_facts_here", "_law_word"]
theorem sc_law_units : FnScope N_law_units ["_law_facts_here"] (defScope s_law_units) := ⟨rfl, rfl, rfl, by decide +kernel, rfl, by decide +kernel, by decide +kernel⟩
abbrev s_law_how : Stmt := topS 38
abbrev N_law_how : List Str := ["_law_shelf", "_law_door", "_law_odd", "_law_e"]
theorem sc_law_how : FnScope N_law_how ["_law_shelf", "_law_door", "_law_odd"] (defScope s_law_how) := ⟨rfl, rfl, rfl, by decide +kernel, rfl, by decide +kernel, by decide +kernel⟩
abbrev s_law_odd_things : Stmt := topS 39
abbrev N_law_odd_things : List Str := ["_law_bag_here", "_law_words", "_law_strange", "_law_found", "_law_word", "_law_one"]
theorem sc_law_odd_things : FnScope N_law_odd_things ["_law_bag_here", "_law_words"] (defScope s_law_odd_things) := ⟨rfl, rfl, rfl, by decide +kernel, rfl, by decide +kernel, by decide +kernel⟩
abbrev s_law : Stmt := topS 40
abbrev N_law : List Str := ["_law_script", "_law_k", "_law_bag_here", "_law_facts_here", "_law_shelf", "_law_words", "_law_odd", "_law_turn", "_law_one", "_law_at", "_law_door", "_law_word"]
theorem sc_law : FnScope N_law ["_law_script"] (defScope s_law) := ⟨rfl, rfl, rfl, by decide +kernel, rfl, by decide +kernel, by decide +kernel⟩
structure Txt (K : PySem.W.Frag) (mg : Str → Option Value) where
  d_own_copy : FuncData
  F_own_copy : FunD K "own_copy" "own_copy" (defArgs s_own_copy) (defBody s_own_copy) (defScope s_own_copy) [] [] (He.fAd K ("own_copy", none)) d_own_copy
  m_own_copy : mg "own_copy" = some (.ref (He.ga K "own_copy"))
  b_own_copy : Binds K d_own_copy ["thing"] []
  d_NoUnit_init : FuncData
  F_NoUnit_init : FunD K "__init__" "NoUnit.__init__" (defArgs s_NoUnit_init) (defBody s_NoUnit_init) (defScope s_NoUnit_init) [] [] (He.fAd K ("NoUnit", some "__init__")) d_NoUnit_init
  b_NoUnit_init : Binds K d_NoUnit_init ["self", "name"] []
  d_Shelf_init : FuncData
  F_Shelf_init : FunD K "__init__" "Shelf.__init__" (defArgs s_Shelf_init) (defBody s_Shelf_init) (defScope s_Shelf_init) [V.ref (He.dflAt ("Shelf", some "__init__") 0 K)] [] (He.fAd K ("Shelf", some "__init__")) d_Shelf_init
  b2_Shelf_init : Binds K d_Shelf_init ["self", "units"] []
  b1_Shelf_init : ∃ ds, Vals [V.ref (He.dflAt ("Shelf", some "__init__") 0 K)] ds ∧ Binds K d_Shelf_init ["self", "units"] ds
  e1_Shelf_init : ∀ H, SqT K H (He.dflAt ("Shelf", some "__init__") 0 K) []
  d_Shelf_names : FuncData
  F_Shelf_names : FunD K "names" "Shelf.names" (defArgs s_Shelf_names) (defBody s_Shelf_names) (defScope s_Shelf_names) [] [] (He.fAd K ("Shelf", some "names")) d_Shelf_names
  b_Shelf_names : Binds K d_Shelf_names ["self"] []
  me_Shelf_names : Meth K (He.ga K "Shelf") "names" (He.fAd K ("Shelf", some "names"))
  d_Shelf_has : FuncData
  F_Shelf_has : FunD K "has" "Shelf.has" (defArgs s_Shelf_has) (defBody s_Shelf_has) (defScope s_Shelf_has) [] [] (He.fAd K ("Shelf", some "has")) d_Shelf_has
  b_Shelf_has : Binds K d_Shelf_has ["self", "name"] []
  me_Shelf_has : Meth K (He.ga K "Shelf") "has" (He.fAd K ("Shelf", some "has"))
  d_Shelf_unit : FuncData
  F_Shelf_unit : FunD K "unit" "Shelf.unit" (defArgs s_Shelf_unit) (defBody s_Shelf_unit) (defScope s_Shelf_unit) [] [] (He.fAd K ("Shelf", some "unit")) d_Shelf_unit
  b_Shelf_unit : Binds K d_Shelf_unit ["self", "name"] []
  me_Shelf_unit : Meth K (He.ga K "Shelf") "unit" (He.fAd K ("Shelf", some "unit"))
  d_Shelf_needing : FuncData
  F_Shelf_needing : FunD K "needing" "Shelf.needing" (defArgs s_Shelf_needing) (defBody s_Shelf_needing) (defScope s_Shelf_needing) [] [] (He.fAd K ("Shelf", some "needing")) d_Shelf_needing
  b_Shelf_needing : Binds K d_Shelf_needing ["self", "name"] []
  me_Shelf_needing : Meth K (He.ga K "Shelf") "needing" (He.fAd K ("Shelf", some "needing"))
  d_Shelf_barred : FuncData
  F_Shelf_barred : FunD K "barred" "Shelf.barred" (defArgs s_Shelf_barred) (defBody s_Shelf_barred) (defScope s_Shelf_barred) [] [] (He.fAd K ("Shelf", some "barred")) d_Shelf_barred
  b_Shelf_barred : Binds K d_Shelf_barred ["self", "name"] []
  me_Shelf_barred : Meth K (He.ga K "Shelf") "barred" (He.fAd K ("Shelf", some "barred"))
  d_Shelf_waited : FuncData
  F_Shelf_waited : FunD K "waited" "Shelf.waited" (defArgs s_Shelf_waited) (defBody s_Shelf_waited) (defScope s_Shelf_waited) [] [] (He.fAd K ("Shelf", some "waited")) d_Shelf_waited
  b_Shelf_waited : Binds K d_Shelf_waited ["self", "name"] []
  me_Shelf_waited : Meth K (He.ga K "Shelf") "waited" (He.fAd K ("Shelf", some "waited"))
  d_Rule_init : FuncData
  F_Rule_init : FunD K "__init__" "Rule.__init__" (defArgs s_Rule_init) (defBody s_Rule_init) (defScope s_Rule_init) [] [("first", V.int 1), ("times", V.int 2), ("top", V.int 64), ("burst", V.int 5), ("span", V.int 100)] (He.fAd K ("Rule", some "__init__")) d_Rule_init
  d_Rule_eq : FuncData
  F_Rule_eq : FunD K "__eq__" "Rule.__eq__" (defArgs s_Rule_eq) (defBody s_Rule_eq) (defScope s_Rule_eq) [] [] (He.fAd K ("Rule", some "__eq__")) d_Rule_eq
  b_Rule_eq : Binds K d_Rule_eq ["self", "other"] []
  me_Rule_eq : Meth K (He.ga K "Rule") "__eq__" (He.fAd K ("Rule", some "__eq__"))
  d_Unit_init : FuncData
  F_Unit_init : FunD K "__init__" "Unit.__init__" (defArgs s_Unit_init) (defBody s_Unit_init) (defScope s_Unit_init) [] [("kind", V.str "work"), ("needs", V.ref (UO.kwAdr K ("Unit", some "__init__") "needs")), ("wants", V.ref (UO.kwAdr K ("Unit", some "__init__") "wants")), ("bars", V.ref (UO.kwAdr K ("Unit", some "__init__") "bars")), ("after", V.ref (UO.kwAdr K ("Unit", some "__init__") "after")), ("opens", V.non), ("rule", V.non)] (He.fAd K ("Unit", some "__init__")) d_Unit_init
  d_Unit_eq : FuncData
  F_Unit_eq : FunD K "__eq__" "Unit.__eq__" (defArgs s_Unit_eq) (defBody s_Unit_eq) (defScope s_Unit_eq) [] [] (He.fAd K ("Unit", some "__eq__")) d_Unit_eq
  b_Unit_eq : Binds K d_Unit_eq ["self", "other"] []
  me_Unit_eq : Meth K (He.ga K "Unit") "__eq__" (He.fAd K ("Unit", some "__eq__"))
  d_law_bag : FuncData
  F_law_bag : FunD K "_law_bag" "_law_bag" (defArgs s_law_bag) (defBody s_law_bag) (defScope s_law_bag) [] [] (He.fAd K ("_law_bag", none)) d_law_bag
  m_law_bag : mg "_law_bag" = some (.ref (He.ga K "_law_bag"))
  b_law_bag : Binds K d_law_bag ["_law_script", "_law_at"] []
  d_law_take : FuncData
  F_law_take : FunD K "_law_take" "_law_take" (defArgs s_law_take) (defBody s_law_take) (defScope s_law_take) [] [] (He.fAd K ("_law_take", none)) d_law_take
  m_law_take : mg "_law_take" = some (.ref (He.ga K "_law_take"))
  b_law_take : Binds K d_law_take ["_law_bag_here", "_law_size"] []
  d_law_name : FuncData
  F_law_name : FunD K "_law_name" "_law_name" (defArgs s_law_name) (defBody s_law_name) (defScope s_law_name) [] [] (He.fAd K ("_law_name", none)) d_law_name
  m_law_name : mg "_law_name" = some (.ref (He.ga K "_law_name"))
  b_law_name : Binds K d_law_name ["_law_bag_here"] []
  d_law_names : FuncData
  F_law_names : FunD K "_law_names" "_law_names" (defArgs s_law_names) (defBody s_law_names) (defScope s_law_names) [] [] (He.fAd K ("_law_names", none)) d_law_names
  m_law_names : mg "_law_names" = some (.ref (He.ga K "_law_names"))
  b_law_names : Binds K d_law_names ["_law_bag_here", "_law_size"] []
  d_law_kind : FuncData
  F_law_kind : FunD K "_law_kind" "_law_kind" (defArgs s_law_kind) (defBody s_law_kind) (defScope s_law_kind) [] [] (He.fAd K ("_law_kind", none)) d_law_kind
  m_law_kind : mg "_law_kind" = some (.ref (He.ga K "_law_kind"))
  b_law_kind : Binds K d_law_kind ["_law_e"] []
  d_law_any : FuncData
  F_law_any : FunD K "_law_any" "_law_any" (defArgs s_law_any) (defBody s_law_any) (defScope s_law_any) [] [] (He.fAd K ("_law_any", none)) d_law_any
  m_law_any : mg "_law_any" = some (.ref (He.ga K "_law_any"))
  b_law_any : Binds K d_law_any ["_law_bag_here"] []
  d_law_rule_parts : FuncData
  F_law_rule_parts : FunD K "_law_rule_parts" "_law_rule_parts" (defArgs s_law_rule_parts) (defBody s_law_rule_parts) (defScope s_law_rule_parts) [] [] (He.fAd K ("_law_rule_parts", none)) d_law_rule_parts
  m_law_rule_parts : mg "_law_rule_parts" = some (.ref (He.ga K "_law_rule_parts"))
  b_law_rule_parts : Binds K d_law_rule_parts ["_law_bag_here"] []
  d_law_rule : FuncData
  F_law_rule : FunD K "_law_rule" "_law_rule" (defArgs s_law_rule) (defBody s_law_rule) (defScope s_law_rule) [] [] (He.fAd K ("_law_rule", none)) d_law_rule
  m_law_rule : mg "_law_rule" = some (.ref (He.ga K "_law_rule"))
  b_law_rule : Binds K d_law_rule ["_law_five"] []
  d_law_some : FuncData
  F_law_some : FunD K "_law_some" "_law_some" (defArgs s_law_some) (defBody s_law_some) (defScope s_law_some) [] [] (He.fAd K ("_law_some", none)) d_law_some
  m_law_some : mg "_law_some" = some (.ref (He.ga K "_law_some"))
  b_law_some : Binds K d_law_some ["_law_bag_here", "_law_pool", "_law_most"] []
  d_law_facts : FuncData
  F_law_facts : FunD K "_law_facts" "_law_facts" (defArgs s_law_facts) (defBody s_law_facts) (defScope s_law_facts) [] [] (He.fAd K ("_law_facts", none)) d_law_facts
  m_law_facts : mg "_law_facts" = some (.ref (He.ga K "_law_facts"))
  b_law_facts : Binds K d_law_facts ["_law_bag_here", "_law_most"] []
  d_law_unit : FuncData
  F_law_unit : FunD K "_law_unit" "_law_unit" (defArgs s_law_unit) (defBody s_law_unit) (defScope s_law_unit) [] [] (He.fAd K ("_law_unit", none)) d_law_unit
  m_law_unit : mg "_law_unit" = some (.ref (He.ga K "_law_unit"))
  b_law_unit : Binds K d_law_unit ["_law_word", "_law_facts_here"] []
  d_law_units : FuncData
  F_law_units : FunD K "_law_units" "_law_units" (defArgs s_law_units) (defBody s_law_units) (defScope s_law_units) [] [] (He.fAd K ("_law_units", none)) d_law_units
  m_law_units : mg "_law_units" = some (.ref (He.ga K "_law_units"))
  b_law_units : Binds K d_law_units ["_law_facts_here"] []
  d_law_how : FuncData
  F_law_how : FunD K "_law_how" "_law_how" (defArgs s_law_how) (defBody s_law_how) (defScope s_law_how) [] [] (He.fAd K ("_law_how", none)) d_law_how
  m_law_how : mg "_law_how" = some (.ref (He.ga K "_law_how"))
  b_law_how : Binds K d_law_how ["_law_shelf", "_law_door", "_law_odd"] []
  d_law_odd_things : FuncData
  F_law_odd_things : FunD K "_law_odd_things" "_law_odd_things" (defArgs s_law_odd_things) (defBody s_law_odd_things) (defScope s_law_odd_things) [] [] (He.fAd K ("_law_odd_things", none)) d_law_odd_things
  m_law_odd_things : mg "_law_odd_things" = some (.ref (He.ga K "_law_odd_things"))
  b_law_odd_things : Binds K d_law_odd_things ["_law_bag_here", "_law_words"] []
  d_law : FuncData
  F_law : FunD K "law" "law" (defArgs s_law) (defBody s_law) (defScope s_law) [] [] (He.fAd K ("law", none)) d_law
  m_law : mg "law" = some (.ref (He.ga K "law"))
  b_law : Binds K d_law ["_law_script"] []
  m_Shelf : mg "Shelf" = some (.ref (He.ga K "Shelf"))
  cl_Shelf : Cls K (He.ga K "Shelf")
  mk_Shelf : Mk K (He.ga K "Shelf") (He.fAd K ("Shelf", some "__init__"))
  na_Shelf_by_name : NoAttr K (He.ga K "Shelf") "by_name"
  m_Rule : mg "Rule" = some (.ref (He.ga K "Rule"))
  cl_Rule : Cls K (He.ga K "Rule")
  mk_Rule : Mk K (He.ga K "Rule") (He.fAd K ("Rule", some "__init__"))
  na_Rule_first : NoAttr K (He.ga K "Rule") "first"
  na_Rule_times : NoAttr K (He.ga K "Rule") "times"
  na_Rule_top : NoAttr K (He.ga K "Rule") "top"
  na_Rule_burst : NoAttr K (He.ga K "Rule") "burst"
  na_Rule_span : NoAttr K (He.ga K "Rule") "span"
  m_Unit : mg "Unit" = some (.ref (He.ga K "Unit"))
  cl_Unit : Cls K (He.ga K "Unit")
  mk_Unit : Mk K (He.ga K "Unit") (He.fAd K ("Unit", some "__init__"))
  na_Unit_name : NoAttr K (He.ga K "Unit") "name"
  na_Unit_kind : NoAttr K (He.ga K "Unit") "kind"
  na_Unit_needs : NoAttr K (He.ga K "Unit") "needs"
  na_Unit_wants : NoAttr K (He.ga K "Unit") "wants"
  na_Unit_bars : NoAttr K (He.ga K "Unit") "bars"
  na_Unit_after : NoAttr K (He.ga K "Unit") "after"
  na_Unit_opens : NoAttr K (He.ga K "Unit") "opens"
  na_Unit_rule : NoAttr K (He.ga K "Unit") "rule"
  m_NoUnit : mg "NoUnit" = some (.ref (He.ga K "NoUnit"))
  ox_NoUnit : UX.OwnY K (He.ga K "NoUnit") (He.fAd K ("NoUnit", some "__init__")) "KeyError" "LookupError.__new__" "KeyError.__init__" UE.keTail
  ax_NoUnit : UX.Asks K (He.ga K "NoUnit")
  oa_NoUnit_name : PySem.W.findIn K (.ref (He.ga K "NoUnit")) "name" = some none
  kx_NoUnit_NoUnit : PySem.W.kitOne K (.ref (He.ga K "NoUnit")) (.ref (He.ga K "NoUnit")) = some true
  kx_NoUnit_NoTick : PySem.W.kitOne K (.ref (He.ga K "NoUnit")) (.ref (He.ga K "NoTick")) = some false
  kx_NoUnit_NotReady : PySem.W.kitOne K (.ref (He.ga K "NoUnit")) (.ref (He.ga K "NotReady")) = some false
  kx_NoUnit_NotBegun : PySem.W.kitOne K (.ref (He.ga K "NoUnit")) (.ref (He.ga K "NotBegun")) = some false
  kx_NoUnit_NotOn : PySem.W.kitOne K (.ref (He.ga K "NoUnit")) (.ref (He.ga K "NotOn")) = some false
  kx_NoUnit_Running : PySem.W.kitOne K (.ref (He.ga K "NoUnit")) (.ref (He.ga K "Running")) = some false
  kx_NoUnit_NoDoor : PySem.W.kitOne K (.ref (He.ga K "NoUnit")) (.ref (He.ga K "NoDoor")) = some false
  kx_NoUnit_Full : PySem.W.kitOne K (.ref (He.ga K "NoUnit")) (.ref (He.ga K "Full")) = some false
  kx_NoUnit_NoText : PySem.W.kitOne K (.ref (He.ga K "NoUnit")) (.ref (He.ga K "NoText")) = some false
  kx_NoUnit_NoRow : PySem.W.kitOne K (.ref (He.ga K "NoUnit")) (.ref (He.ga K "NoRow")) = some false
  kx_NoUnit_Lack : PySem.W.kitOne K (.ref (He.ga K "NoUnit")) (.ref (He.ga K "Lack")) = some false
  kx_NoUnit_Clash : PySem.W.kitOne K (.ref (He.ga K "NoUnit")) (.ref (He.ga K "Clash")) = some false
  kx_NoUnit_Knot : PySem.W.kitOne K (.ref (He.ga K "NoUnit")) (.ref (He.ga K "Knot")) = some false
  kx_NoUnit_NoShelf : PySem.W.kitOne K (.ref (He.ga K "NoUnit")) (.ref (He.ga K "NoShelf")) = some false
  kx_NoUnit_UnitError : PySem.W.kitOne K (.ref (He.ga K "NoUnit")) (.ref (He.ga K "UnitError")) = some false
  kx_NoUnit_ValueError : PySem.W.kitOne K (.ref (He.ga K "NoUnit")) (.type "ValueError") = some false
  kx_NoUnit_KeyError : PySem.W.kitOne K (.ref (He.ga K "NoUnit")) (.type "KeyError") = some true
  vi_KeyError : PySem.W.findCls K (.type "KeyError") (.type "type") "__init__" = some (.val (.builtin "KeyError.__init__"))
  m_NoTick : mg "NoTick" = some (.ref (He.ga K "NoTick"))
  m_NotReady : mg "NotReady" = some (.ref (He.ga K "NotReady"))
  m_NotBegun : mg "NotBegun" = some (.ref (He.ga K "NotBegun"))
  m_NotOn : mg "NotOn" = some (.ref (He.ga K "NotOn"))
  m_Running : mg "Running" = some (.ref (He.ga K "Running"))
  m_NoDoor : mg "NoDoor" = some (.ref (He.ga K "NoDoor"))
  m_Full : mg "Full" = some (.ref (He.ga K "Full"))
  m_NoText : mg "NoText" = some (.ref (He.ga K "NoText"))
  m_NoRow : mg "NoRow" = some (.ref (He.ga K "NoRow"))
  m_Lack : mg "Lack" = some (.ref (He.ga K "Lack"))
  m_Clash : mg "Clash" = some (.ref (He.ga K "Clash"))
  m_Knot : mg "Knot" = some (.ref (He.ga K "Knot"))
  m_NoShelf : mg "NoShelf" = some (.ref (He.ga K "NoShelf"))
  m_UnitError : mg "UnitError" = some (.ref (He.ga K "UnitError"))
  e0_Unit_init_needs : ∀ H, SqT K H (UO.kwAdr K ("Unit", some "__init__") "needs") []
  e0_Unit_init_wants : ∀ H, SqT K H (UO.kwAdr K ("Unit", some "__init__") "wants") []
  e0_Unit_init_bars : ∀ H, SqT K H (UO.kwAdr K ("Unit", some "__init__") "bars") []
  e0_Unit_init_after : ∀ H, SqT K H (UO.kwAdr K ("Unit", some "__init__") "after") []
  ix_Unit : UO.InsX K (He.ga K "Unit")
  ix_Rule : UO.InsX K (He.ga K "Rule")
  px_Unit_Rule : UO.PairX K (He.ga K "Unit") (He.ga K "Rule")
  px_Rule_Unit : UO.PairX K (He.ga K "Rule") (He.ga K "Unit")
  c_MOST : ∃ t, mg "MOST" = some (.int 16 t)
  n_isinstance : mg "isinstance" = none
  n_list : mg "list" = none
  n_tuple : mg "tuple" = none
  n_KeyError : mg "KeyError" = none
  n_len : mg "len" = none
  n_sorted : mg "sorted" = none
  n_str : mg "str" = none
  n_abs : mg "abs" = none
  n_int : mg "int" = none
  n_range : mg "range" = none
  n_ValueError : mg "ValueError" = none
  n_repr : mg "repr" = none
  n_max : mg "max" = none
  n_min : mg "min" = none
  n_all : mg "all" = none
  kb_Rule_init_1_first_times_top_burst_span : ∃ gg, KBn K d_Rule_init ["self", "first", "times", "top", "burst", "span"] 1 ["first", "times", "top", "burst", "span"] gg (fun us ws => us ++ (ws.drop 0).take 1 ++ (ws.drop 1).take 1 ++ (ws.drop 2).take 1 ++ (ws.drop 3).take 1 ++ (ws.drop 4).take 1)
  kb_Unit_init_2_kind_needs_wants_bars_after_opens_rule : ∃ gg, KBn K d_Unit_init ["self", "name", "kind", "needs", "wants", "bars", "after", "opens", "rule"] 2 ["kind", "needs", "wants", "bars", "after", "opens", "rule"] gg (fun us ws => us ++ (ws.drop 0).take 1 ++ (ws.drop 1).take 1 ++ (ws.drop 2).take 1 ++ (ws.drop 3).take 1 ++ (ws.drop 4).take 1 ++ (ws.drop 5).take 1 ++ (ws.drop 6).take 1)
  kb_Shelf_has_1_name : ∃ gg, KBn K d_Shelf_has ["self", "name"] 1 ["name"] gg (fun us ws => us ++ (ws.drop 0).take 1)
section
variable {P : Program} {w : World} {K : PySem.W.Frag} {mg : Str → Option Value} {base : Heap}
/-! ### the bag and a draw -/
def sp_law_bag (K : PySem.W.Frag) : Sp := fun vs H Q _ => ∃ (a : Addr) (ns : List Int) (k : Nat), vs = [.ref a, .int k] ∧ SqL K H a (ns.map V.int) ∧ k ≤ 1000 ∧
  ∀ p H', H p = none → Same H H' → Bag 0 H' p → Q (.ref p) H'
theorem ok_law_bag (T : Txt K mg) : FnOk P w K mg base CX0 1 (He.fAd K ("_law_bag", none)) T.d_law_bag ["_law_script", "_law_at"] (sp_law_bag K) := by
  refine T.F_law_bag.ok sc_law_bag (fun vs H Q E h => ?_) (fun cdv A outer s H vs Q E hr h => ?_)
  · obtain ⟨a, ns, k, rfl, _⟩ := h
    rfl
  · obtain ⟨a, ns, k, rfl, hS, hk, q⟩ := h
    refine ⟨_, PSs.nox (pss_cons (ps_set (i := 2) sc_law_bag.nd rfl (Or.inl rfl) (pe_op op_add (pe_op op_add (pe_op op_mul (pe_op op_mul pe_int (pv 1)) (pv 1)) (pe_op op_mul pe_int (pv 1))) pe_int))
      (pss_mid (ps_if (pt_cmpR op_lt (pv 1) (pe_callB (id := "len")  call_len_seq (by rfl) T.n_len (by decide +kernel) (pa_cons (pv 0) pa_nil)) (nomark _))
      (pss_one (ps_set (i := 2) sc_law_bag.nd rfl (Or.inl rfl) (pe_ix ix_list (pv 0) (pv 1) (fun _ _ => rfl))))
      pss_nil)
      (pss_cons (ps_set (i := 3) sc_law_bag.nd rfl (Or.inl rfl) (pe_callB (id := "abs")  call_abs (by rfl) T.n_abs (by decide +kernel) (pa_cons (pv 2) pa_nil)))
      (pss_one (ps_ret (pe_lst (pa_cons (pe_op op_mul (pv 3) (pe_callTy (T := "int")  call_int1 (by rfl) T.n_int (by decide +kernel) (pa_cons (pe_cmpR op_ge (pv 3) (pe_op op_powL pe_int pe_int) (nomark _)) pa_nil))) (pa_cons (pe_op op_add (pe_op op_mod (pv 2) (pe_op op_add (pe_op op_powL pe_int pe_int) pe_int)) (pe_op op_mul pe_int (pv 1))) (pa_cons pe_int pa_nil))))))))), ?_⟩
    have hk2 : (k : Int) ≤ 1000 := by omega
    have hk0 : (0 : Int) ≤ k := Int.natCast_nonneg _
    -- cell = 7919 * at * at + 104729 * at + 11
    refine ⟨_, rfl, _, _, rfl, rfl, .inl ⟨by decide, by decide⟩, _, rfl, _, _, rfl, rfl, .inr ⟨by omega, by omega⟩, _, rfl, _, _, rfl, rfl, .inl ⟨by decide, by decide⟩, _, _, rfl, rfl, _, _, rfl, rfl, ?_⟩
    -- if at < len(script)
    refine ⟨fun σ H' => H' = H ∧ ∃ c : Int, σ = [some (.ref a), some (.int k), some (.int c), none], ?_, ?_⟩
    · refine ⟨_, rfl, _, rfl, a, _, rfl, .inl hS, _, _, rfl, rfl, _, rfl, ?_⟩
      refine ite2 (fun hc => ?_) (fun hc => ?_)
      · have hlt : k < ns.length := by
          have := of_decide_eq_true hc
          rw [List.length_map] at this
          omega
        exact ⟨_, rfl, _, rfl, a, _, _, .int ns[k], rfl, rfl, hS, atI_nat (by rw [List.getElem?_map, List.getElem?_eq_getElem hlt]; rfl), rfl, _, rfl⟩
      · exact ⟨rfl, _, rfl⟩
    · rintro σ H' ⟨rfl, c, rfl⟩
      -- far = abs(cell); return [far * int(far >= 10 ** 18), cell % (10 ** 18 + 9) + 1299709 * at, 0]
      refine ⟨_, rfl, _, rfl, ?_⟩
      refine ⟨_, rfl, _, rfl, _, _, rfl, rfl, pow10, _, _, rfl, rfl, .inr ⟨_, rfl, _, _, rfl, rfl, cmul_b, ?_⟩⟩
      refine ⟨_, rfl, _, _, rfl, rfl, pow10, _, _, rfl, rfl, _, _, rfl, rfl, (by show (0 : Int) < 10 ^ (18 : Int).toNat + 9; decide), _, rfl, _, _, rfl, rfl, .inl ⟨by decide, by decide⟩, _, _, rfl, rfl, (by show 3 ≤ sizeLine; decide), fun p hp => ?_⟩
      exact q p _ hp (same_upd hp) (bag_made hk0 hk2)
abbrev sp_law_take (K : PySem.W.Frag) : Sp := spTake
theorem ok_law_take (T : Txt K mg) : FnOk P w K mg base CX0 1 (He.fAd K ("_law_take", none)) T.d_law_take ["_law_bag_here", "_law_size"] (sp_law_take K) := by
  refine T.F_law_take.ok sc_law_take (fun vs H Q E h => ?_) (fun cdv A outer s H vs Q E hr h => ?_)
  · obtain ⟨p, z, n, rfl, _⟩ := take_un h
    rfl
  · obtain ⟨p, z, n, rfl, hB, hz0, hz1, hn, q⟩ := take_un h
    refine ⟨_, PSs.nox (pss_cons (ps_if (pt_cmpR op_gt (pe_ix ix_list (pv 0) pe_int (fun _ _ => rfl)) pe_int (nomark _))
      (pss_cons (ps_set (i := 2) sc_law_take.nd rfl (Or.inl rfl) (pe_op op_mod (pe_ix ix_list (pv 0) pe_int (fun _ _ => rfl)) (pv 1)))
      (pss_cons (ps_asg (pe_op op_fdiv (pe_ix ix_list (pv 0) pe_int (fun _ _ => rfl)) (pv 1)) (pg_sub (pv 0) pe_int set_list))
      (pss_one (ps_ret (pv 2)))))
      pss_nil)
      (pss_cons (ps_set (i := 3) sc_law_take.nd rfl (Or.inl rfl) (pe_tup (pa_cons pe_int (pa_cons pe_int (pa_cons pe_int (pa_cons pe_int (pa_cons pe_int (pa_cons pe_int (pa_cons pe_int (pa_cons pe_int pa_nil))))))))))
      (pss_cons (ps_asg (pe_op op_add (pe_ix ix_list (pv 0) pe_int (fun _ _ => rfl)) pe_int) (pg_sub (pv 0) pe_int set_list))
      (pss_cons (ps_set (i := 4) sc_law_take.nd rfl (Or.inl rfl) (pe_ix ix_list (pv 0) pe_int (fun _ _ => rfl)))
      (pss_cons (ps_set (i := 5) sc_law_take.nd rfl (Or.inl rfl) (pe_op op_add (pe_op op_add (pe_op op_mul (pe_ix ix_list (pv 0) pe_int (fun _ _ => rfl)) (pe_op op_add (pe_op op_mul pe_int (pv 4)) pe_int)) (pe_op op_mul (pe_op op_mul pe_int (pv 4)) (pv 4))) pe_int))
      (pss_cons (ps_set (i := 6) sc_law_take.nd rfl (Or.inl rfl) (pe_op op_mod (pe_op op_powL (pv 5) pe_int) (pe_ix ix_tup (pv 3) (pe_op op_mod (pv 4) pe_int) (fun _ _ => rfl))))
      (pss_one (ps_ret (pe_op op_mod (pe_op op_fdiv (pe_op op_mod (pe_op op_mul (pv 6) (pe_op op_add (pe_op op_fdiv (pv 6) pe_int) pe_int)) (pe_ix ix_tup (pv 3) (pe_op op_mod (pe_op op_add (pv 4) pe_int) pe_int) (fun _ _ => rfl))) pe_int) (pv 1)))))))))), ?_⟩
    obtain ⟨a, b, c, hp, ha, hb, hb1, hc, hc1⟩ := hB.ex
    -- if bag[0] > 0
    refine ⟨_, rfl, p, _, _, _, rfl, rfl, SqL.of hp, at0, _, _, rfl, rfl, _, rfl, ?_⟩
    refine ite2 (fun _ => ?_) (fun _ => ?_)
    · -- digit = bag[0] % size
      refine ⟨_, rfl, p, _, _, _, rfl, rfl, SqL.of hp, at0, _, rfl, _, _, rfl, rfl, hz0, ?_⟩
      -- bag[0] = bag[0] // size
      refine ⟨_, rfl, p, _, _, _, rfl, rfl, SqL.of hp, at0, _, rfl, _, _, rfl, rfl, ⟨hz0, hz1⟩, _, rfl, p, _, _, 0, rfl, rfl, hp, rfl, ?_⟩
      refine ⟨_, rfl, ?_⟩
      refine q (a % z) _ (Int.emod_nonneg _ (by omega)) (Int.emod_lt_of_pos _ hz0) ⟨_, _, _, upd_same, Int.ediv_nonneg ha (by omega), hb, hb1, hc, by omega⟩ (mut_keep rfl)
    · -- primes
      refine ⟨by show 8 ≤ sizeLine; decide, fun t ht => ?_⟩
      generalize hE : upd H t _ = H1
      have k1 := new_at hE
      have s1 := new_same hE ht
      have hp1 := s1 _ _ hp
      have npt : p ≠ t := ne_some hp ht
      -- bag[2] = bag[2] + 1
      refine ⟨_, rfl, p, _, _, _, rfl, rfl, SqL.of hp1, at2, _, _, rfl, rfl, _, rfl, p, _, _, 2, rfl, rfl, hp1, rfl, ?_⟩
      generalize hE2 : upd H1 p _ = H2
      have hp2 : H2 p = some (.lst [.int a, .int b, .int (c + 1)]) := new_at hE2
      have kp2 := mut_keep hE2
      have k2 := kp2 _ _ k1 npt.symm
      have bag2 : Bag (n + 1) H2 p := ⟨_, _, _, hp2, ha, hb, hb1, by omega, by omega⟩
      have kpA : Kp p H H2 := (Kp.of s1).trans kp2
      -- stage, basis
      refine ⟨_, rfl, p, _, _, _, rfl, rfl, SqL.of hp2, at2, ?_⟩
      refine ⟨_, rfl, p, _, _, _, rfl, rfl, SqL.of hp2, at1, _, rfl, _, _, rfl, rfl, .inl ⟨by decide, by decide⟩, _, _, rfl, rfl, _, _, rfl, rfl, .inl ⟨by omega, by omega⟩, _, rfl, _, _, rfl, rfl, .inl ⟨by decide, by decide⟩, _, rfl, _, _, rfl, rfl, .inr ⟨by omega, by omega⟩, _, _, rfl, rfl, _, _, rfl, rfl, ?_⟩
      -- found = basis ** 3 % primes[stage % 8]
      obtain ⟨p1, e1, g1, l1⟩ := prime_at (c + 1)
      refine ⟨_, rfl, _, _, rfl, rfl, ⟨by decide, by decide, basis_small hb hb1 (by omega) (by omega)⟩, _, rfl, _, rfl, _, _, rfl, rfl, (by show (0 : Int) < 8; decide), t, _, _, _, rfl, rfl, SqT.of k2, e1, _, _, rfl, rfl, g1, ?_⟩
      generalize hf : (b * (2 * (c + 1) + 1) + 7919 * (c + 1) * (c + 1) + 29) ^ (3 : Int).toNat % p1 = f
      have f0 : 0 ≤ f := by rw [← hf]; exact Int.emod_nonneg _ (by have : 0 < p1 := g1; omega)
      have f1 : f < 2147483648 := by
        have h1 := Int.emod_lt_of_pos ((b * (2 * (c + 1) + 1) + 7919 * (c + 1) * (c + 1) + 29) ^ (3 : Int).toNat) (show 0 < p1 from g1)
        rw [hf] at h1
        omega
      obtain ⟨p2, e2, g2, l2⟩ := prime_at (c + 1 + 5)
      refine ⟨_, rfl, _, rfl, _, _, rfl, rfl, ⟨by decide, by decide⟩, _, _, rfl, rfl, _, _, rfl, rfl, .inl ⟨by omega, by omega⟩, _, rfl, _, rfl, _, _, rfl, rfl, _, _, rfl, rfl, (by show (0 : Int) < 8; decide), t, _, _, _, rfl, rfl, SqT.of k2, e2, _, _, rfl, rfl, g2, _, _, rfl, rfl, ⟨by decide, by decide⟩, _, rfl, _, _, rfl, rfl, hz0, ?_⟩
      exact q _ _ (Int.emod_nonneg _ (by omega)) (Int.emod_lt_of_pos _ hz0) bag2 kpA

-- SPLIT
/-! ### names drawn -/
def sp_law_name (K : PySem.W.Frag) : Sp := fun vs H Q _ => ∃ (p : Addr) (n : Nat), vs = [.ref p] ∧ Bag n H p ∧ n < 800000000 ∧
  ∀ (x : Str) H', Nm x → Bag (n + 10) H' p → Kp p H H' → Q (.str x) H'
theorem ok_law_name (T : Txt K mg) : FnOk P w K mg base CX0 2 (He.fAd K ("_law_name", none)) T.d_law_name ["_law_bag_here"] (sp_law_name K) := by
  refine T.F_law_name.ok sc_law_name (fun vs H Q E h => ?_) (fun cdv A outer s H vs Q E hr h => ?_)
  · obtain ⟨p, n, rfl, _⟩ := h
    rfl
  · obtain ⟨p, n, rfl, B, hn, q⟩ := h
    refine ⟨_, PSs.nox (pss_cons (ps_set (i := 1) sc_law_name.nd rfl (Or.inr rfl) pe_str)
      (pss_cons (ps_set (i := 2) sc_law_name.nd rfl (Or.inl rfl) (pe_op op_add pe_int (pe_call (ok_law_take T) (hr.mono (by decide)) (by rfl) T.m_law_take T.F_law_take.kp T.b_law_take .nil pass0 (pa_cons (pv 0) (pa_cons (pe_ix ix_list (pe_lst (pa_cons pe_int (pa_cons pe_int pa_nil))) (pe_callTy (T := "int")  call_int1 (by rfl) T.n_int (by decide +kernel) (pa_cons (pe_cmpR op_eq (pe_call (ok_law_take T) (hr.mono (by decide)) (by rfl) T.m_law_take T.F_law_take.kp T.b_law_take .nil pass0 (pa_cons (pv 0) (pa_cons pe_int pa_nil))) pe_int (nomark _)) pa_nil)) (fun _ _ => rfl)) pa_nil)))))
      (pss_one (ps_ret (pe_join pe_str (pe_lc (own := [("_law_spot", 3)]) (by rfl) sc_law_name.nd (pi_range1 (by rfl) T.n_range (pa_cons (pv 2) pa_nil)) (blkOk_by (own := [("_law_spot", 3)]) (N := N_law_name) (sc := defScope s_law_name) (by decide +kernel)) (fun _ _ _ _ _ => (pg_name (i := 3) sc_law_name.nd rfl (Or.inl rfl))) (fun _ _ _ _ _ => pts_nil) (fun _ _ _ _ _ => (pe_ix ix_str (pv 1) (pe_call (ok_law_take T) (hr.mono (by decide)) (by rfl) T.m_law_take T.F_law_take.kp T.b_law_take .nil pass0 (pa_cons (pv 0) (pa_cons pe_int pa_nil))) (fun _ _ => rfl))))))))), ?_⟩
    -- size = 1 + take(bag, [2, 8][int(take(bag, 4) == 0)])
    refine ⟨_, rfl, by show 2 ≤ sizeLine; decide, fun l1 n1 => ?_⟩
    generalize hE1 : upd H l1 _ = H1
    have w1 := new_at hE1
    have s1 := new_same hE1 n1
    have np1 := B.ne n1
    refine ⟨_, rfl, ?_⟩
    refine take_of (z := 4) (B.same s1) (by decide) (by decide) (by omega) fun r2 H2 a2 b2 B2 k2 => ?_
    have ix : ∃ m : Int, 2 ≤ m ∧ m ≤ 8 ∧ atI [V.int 2, V.int 8] (if decide (V.int r2 = V.int 0) = true then 1 else 0) = some (.int m) := by
      cases decide (V.int r2 = V.int 0)
      · exact ⟨2, by decide, by decide, at0⟩
      · exact ⟨8, by decide, by decide, at1⟩
    obtain ⟨m, m0, m1, em⟩ := ix
    refine ⟨rfl, .inr ⟨_, rfl, l1, _, _, _, rfl, rfl, SqL.of (k2 _ _ w1 np1.symm), em, ?_⟩⟩
    refine take_of (z := m) B2 (by omega) (by omega) (by omega) fun r3 H3 a3 b3 B3 k3 => ?_
    have kA : Kp p H H3 := ((Kp.of s1).trans k2).trans k3
    refine ⟨_, _, rfl, rfl, ?_⟩
    -- "".join([..])
    refine ⟨⟨_, rfl⟩, _, rfl, _, rfl, by omega, by omega, fun D nD => ?_⟩
    have npD := B3.ne nD
    refine lc_range (lo := 0) (n := (1 + r3).toNat) (fun i H' => Bag (n + 2 + i) H' p ∧ Kp p H H' ∧ ∃ ys : List Str, ys.length = i ∧ (∀ y ∈ ys, ∃ c, y = ⟨#[c]⟩ ∧ 97 ≤ c ∧ c ≤ 122) ∧ H' D = some (.lst (ys.map V.str)))
      ⟨B3.same (same_upd nD), kA.same (same_upd nD), [], rfl, (fun y hy => nomatch hy), upd_same⟩ ?_ ?_
    · rintro i H4 hi ⟨B4, k4, ys, hl, hy, w4⟩
      refine ⟨rfl, yes_of (iteT ?_)⟩
      refine ⟨_, rfl, _, rfl, ?_⟩
      refine take_of (z := 26) B4 (by decide) (by decide) (by omega) fun r5 H5 a5 b5 B5 k5 => ?_
      obtain ⟨c, ec, c0, c1⟩ := letter_at a5 b5
      have w5 := k5 _ _ w4 npD.symm
      refine ⟨_, _, c, rfl, rfl, by decide +kernel, ec, _, w5, by rw [List.length_map]; exact small1000 (by omega), ?_⟩
      have nDH : H D = none := kA.free nD npD.symm
      refine ⟨B5.keep (mut_keep rfl) npD, (k4.trans k5).own (mut_keep rfl) nDH, ys ++ [⟨#[c]⟩], by rw [List.length_append, hl]; rfl, fun y hyy => ?_, by rw [upd_same, List.map_append]; rfl⟩
      rcases List.mem_append.mp hyy with hyy | hyy
      · exact hy y hyy
      · rw [List.mem_singleton.mp hyy]
        exact ⟨c, rfl, c0, c1⟩
    · rintro H4 ⟨B4, k4, ys, hl, hy, w4⟩
      have hsum : (ys.map (·.length)).sum ≤ 8 := by
        have : ∀ ys : List Str, (∀ y ∈ ys, ∃ c, y = ⟨#[c]⟩ ∧ 97 ≤ c ∧ c ≤ 122) → (ys.map (·.length)).sum = ys.length := by
          intro ys
          induction ys with
          | nil => exact fun _ => rfl
          | cons y ys ih =>
            intro h
            obtain ⟨c, rfl, _⟩ := h y (List.mem_cons_self ..)
            rw [List.map_cons, List.sum_cons, ih fun z hz => h z (List.mem_cons_of_mem _ hz), List.length_cons]
            show 1 + ys.length = ys.length + 1
            omega
        rw [this ys hy]
        omega
      refine ⟨_, D, ys, rfl, rfl, .inl (SqL.of w4), by rw [show (Str.ofString "").length = 0 from by decide +kernel]; omega, ?_⟩
      exact q _ H4 (join_one hy (by omega) (by omega)) (B4.le (by omega)) k4
def sp_law_names (K : PySem.W.Frag) : Sp := fun vs H Q _ => ∃ (p : Addr) (k n : Nat), vs = [.ref p, .int k] ∧ Bag n H p ∧ n < 700000000 ∧ k ≤ 20 ∧
  ∀ (xs : List Str) (l : Addr) H', xs.length = k → xs.Nodup → (∀ x ∈ xs, Nm x) → H l = none → H' l = some (.lst (xs.map V.str)) → Bag (n + 10 * k) H' p → Kp p H H' → Q (.ref l) H'
theorem ok_law_names (T : Txt K mg) : FnOk P w K mg base CX0 3 (He.fAd K ("_law_names", none)) T.d_law_names ["_law_bag_here", "_law_size"] (sp_law_names K) := by
  refine T.F_law_names.ok sc_law_names (fun vs H Q E h => ?_) (fun cdv A outer s H vs Q E hr h => ?_)
  · obtain ⟨p, k, n, rfl, _⟩ := h
    rfl
  · obtain ⟨p, k, n, rfl, B, hn, hk, q⟩ := h
    refine ⟨_, PSs.nox (pss_cons (ps_set (i := 2) sc_law_names.nd rfl (Or.inr rfl) (pe_lst pa_nil))
      (pss_cons (ps_for PassesOwn.never rfl (pi_range1 (by rfl) T.n_range (pa_cons (pv 1) pa_nil)) (pg_name (i := 3) sc_law_names.nd rfl (Or.inl rfl))
      (pss_cons (ps_set (i := 4) sc_law_names.nd rfl (Or.inr rfl) (pe_call (ok_law_name T) (hr.mono (by decide)) (by rfl) T.m_law_name T.F_law_name.kp T.b_law_name .nil pass0 (pa_cons (pv 0) pa_nil)))
      (pss_mid (ps_if (pt_cmpR op_in_seq (pv 4) (pv 2) (by rfl))
      (pss_one (ps_set (i := 4) sc_law_names.nd rfl (Or.inr rfl) (pe_ix ix_list (pe_lc (own := [("_law_one", 5)]) (by rfl) sc_law_names.nd (pi_str pe_str) (blkOk_by (own := [("_law_one", 5)]) (N := N_law_names) (sc := defScope s_law_names) (by decide +kernel)) (fun _ _ _ _ _ => (pg_name (i := 5) sc_law_names.nd rfl (Or.inl rfl))) (fun _ _ _ _ _ => (pts_one (pt_cmpR (r := rIn K true) op_notIn_seq (pe_op op_add_str (pv 5) (pe_slice sl_str (pv 4) (po_some pe_int) po_none)) (pv 2) (by rfl)))) (fun _ _ _ _ _ => (pe_op op_add_str (pv 5) (pe_slice sl_str (pv 4) (po_some pe_int) po_none)))) pe_int (fun _ _ => rfl))))
      pss_nil)
      (pss_one (ps_expr (pe_bm PySem.F.plainAttrs_list PySem.F.slot_list_append PySem.F.type_list_append mt_append (pv 2) (pa_cons (pv 4) pa_nil)))))))
      (pss_one (ps_ret (pv 2))))), ?_⟩
    refine ⟨by show 0 ≤ sizeLine; decide, fun l nl => ?_⟩
    generalize hE1 : upd H l _ = H1
    have w1 := new_at hE1
    have s1 := new_same hE1 nl
    have npl := B.ne nl
    refine ⟨_, rfl, _, rfl, by omega, by omega, for_range (lo := 0) (n := (k : Int).toNat) (fun i σ H' => Bag (n + 10 * i) H' p ∧ Kp p H H' ∧ ∃ (xs : List Str) (y1 y2 y3 : Option V), xs.length = i ∧ xs.Nodup ∧ (∀ x ∈ xs, Nm x) ∧ H' l = some (.lst (xs.map V.str)) ∧ σ = [some (.ref p), some (.int k), some (.ref l), y1, y2, y3])
      ⟨B.same s1, Kp.of s1, [], none, none, none, rfl, List.nodup_nil, (fun x hx => nomatch hx), w1, rfl⟩ ?_ ?_⟩
    · rintro i σ H2 hi ⟨B2, k2, xs, y1, y2, y3, hl, hnd, hnm, w2, rfl⟩
      -- word = name(bag)
      refine ⟨_, rfl, p, n + 10 * i, rfl, B2, by omega, fun w H3 hw B3 k3 => ?_⟩
      have w3 := k3 _ _ w2 npl.symm
      -- if word in found
      refine ⟨fun σ H' => Same H3 H' ∧ ∃ (x : Str) (y3 : Option V), Nm x ∧ x ∉ xs ∧ σ = [some (.ref p), some (.int k), some (.ref l), some (.int (0 + (i : Int))), some (.str x), y3], ?_, ?_⟩
      · refine ⟨_, rfl, _, rfl, l, _, rfl, .inl (SqL.of w3), rfl, strs_flat xs, _, rfl, ?_⟩
        rw [inV_str]
        refine ite2 (fun hc => ?_) (fun hc => ?_)
        · refine ⟨_, rfl, fun D nD => ?_⟩
          refine lc_it (walk_str (z := lettersS)) (fun j H' => Same H3 H' ∧ H' D = some (.lst ((((List.range j).map fun i => (⟨#[97 + i]⟩ : Str) ++ tailS w).filter fun x => decide (x ∉ xs)).map V.str))) ⟨same_upd nD, upd_same⟩ (fun _ _ _ _ => trivial) ?_ ?_
          · rintro j x H4 H4' hj ⟨s4, w4⟩ ⟨rfl, c, hc', rfl⟩
            obtain ⟨hj26, rfl⟩ := letters_get hc'
            refine ⟨rfl, ?_⟩
            have hlen : (tailS w).length ≤ 8 := Nat.le_trans (cutS_length _ _ _) hw.2.2
            have ltot : ((⟨#[97 + j]⟩ : Str).length + (tailS w).length) ≤ sizeLine := by
              have h1 : (⟨#[97 + j]⟩ : Str).length = 1 := rfl
              rw [h1]
              exact Nat.le_of_lt (small1000 (by omega))
            refine ⟨_, rfl, _, rfl, _, rfl, w, rfl, Nat.le_trans hw.2.2 (by decide), _, _, rfl, rfl, ltot, _, rfl, l, _, rfl, .inl (SqL.of (s4 _ _ w3)), rfl, strs_flat xs, _, rfl, ?_⟩
            rw [range_map_succ', List.filter_append, List.map_append]
            show if (if true = true then !inV (.str ((⟨#[97 + j]⟩ : Str) ++ tailS w)) (xs.map V.str) else _) = true then _ else _
            rw [if_pos rfl, inV_str]
            by_cases hin : (⟨#[97 + j]⟩ : Str) ++ tailS w ∈ xs
            · rw [decide_eq_true hin]
              refine iteF ⟨s4, ?_⟩
              rw [List.filter_cons_of_neg (p := fun x => decide (x ∉ xs)) (by rw [decide_eq_false (fun z => z hin)]; exact Bool.false_ne_true)]
              rw [List.filter_nil, List.map_nil, List.append_nil]
              exact w4
            · rw [decide_eq_false hin]
              refine iteT ?_
              refine ⟨_, rfl, _, rfl, _, rfl, w, rfl, Nat.le_trans hw.2.2 (by decide), _, _, rfl, rfl, ltot, _, w4, ?_, Same.own (q := D) (H1 := H4') s4 (mut_keep rfl) nD, ?_⟩
              · rw [List.length_map]
                refine Nat.lt_of_le_of_lt (List.length_filter_le _ _) ?_
                rw [List.length_map, List.length_range]
                exact small1000 (by omega)
              · rw [upd_same, List.filter_cons_of_pos (p := fun x => decide (x ∉ xs)) (decide_eq_true hin)]
                rfl
          · rintro H4 ⟨s4, w4⟩
            rw [letters_size] at w4
            obtain ⟨x, hxm, hxf⟩ := free_in (cands_nodup (tailS w)) (ds := xs) (by unfold cands; rw [List.length_map, List.length_range]; omega)
            generalize hF : ((List.range 26).map fun i => (⟨#[97 + i]⟩ : Str) ++ tailS w).filter (fun x => decide (x ∉ xs)) = fs at w4
            have hmem : ∀ z ∈ fs, Nm z ∧ z ∉ xs := fun z hz => by
              rw [← hF] at hz
              obtain ⟨h1, h2⟩ := List.mem_filter.mp hz
              obtain ⟨i, hi, rfl⟩ := List.mem_map.mp h1
              exact ⟨cand_nm hw (List.mem_range.mp hi), of_decide_eq_true h2⟩
            have hx : x ∈ fs := by
              rw [← hF]
              exact List.mem_filter.mpr ⟨hxm, decide_eq_true hxf⟩
            cases fs with
            | nil => cases hx
            | cons z zs =>
              refine ⟨D, _, _, _, rfl, rfl, SqL.of w4, at0, s4, z, _, (hmem z (List.mem_cons_self ..)).1, (hmem z (List.mem_cons_self ..)).2, rfl⟩
        · refine ⟨Same.refl H3, w, _, hw, fun z => hc (decide_eq_true z), rfl⟩
      · rintro σ H4 ⟨s4, x, y3, hx, hxn, rfl⟩
        have w4 := s4 _ _ w3
        refine ⟨_, rfl, .inl ⟨rfl, _, SqL.of w4⟩, _, rfl, l, _, _, rfl, rfl, w4, by rw [List.length_map]; exact small1000 (by omega), ?_⟩
        have B4 := B3.same s4
        refine ⟨(B4.keep (mut_keep rfl) npl).le (by omega), ((k2.trans k3).same s4).own (mut_keep rfl) nl, xs ++ [x], _, _, _, by rw [List.length_append, hl]; rfl, ?_, fun z hz => ?_, by rw [upd_same, List.map_append]; rfl, rfl⟩
        · rw [List.nodup_append]
          exact ⟨hnd, List.nodup_cons.mpr ⟨by simp, List.nodup_nil⟩, fun a ha b hb e => hxn (by rw [List.mem_singleton.mp hb] at e; rw [← e]; exact ha)⟩
        · rcases List.mem_append.mp hz with hz | hz
          · exact hnm z hz
          · rw [List.mem_singleton.mp hz]
            exact hx
    · rintro σ H2 ⟨B2, k2, xs, y1, y2, y3, hl, hnd, hnm, w2, rfl⟩
      exact ⟨_, rfl, q xs l H2 (by omega) hnd hnm nl w2 (B2.le (by omega)) k2⟩

-- SPLIT
/-! ### some of a pool -/
def sp_law_some (K : PySem.W.Frag) : Sp := fun vs H Q _ => ∃ (p l : Addr) (k n : Nat) (xs : List Str), vs = [.ref p, .ref l, .int k] ∧ Bag n H p ∧ n < 700000000 ∧ k ≤ 20 ∧ SqL K H l (xs.map V.str) ∧ l ≠ p ∧ xs.Nodup ∧ xs.length ≤ 100 ∧ (∀ x ∈ xs, Nm x) ∧
  ∀ (ys : List Str) (t : Addr) H', ys.Nodup → (∀ y ∈ ys, y ∈ xs) → ys.length ≤ k → H t = none → H' t = some (.tup (ys.map V.str)) → Bag (n + 1 + k) H' p → Kp p H H' → Q (.ref t) H'
theorem ok_law_some (T : Txt K mg) : FnOk P w K mg base CX0 2 (He.fAd K ("_law_some", none)) T.d_law_some ["_law_bag_here", "_law_pool", "_law_most"] (sp_law_some K) := by
  refine T.F_law_some.ok sc_law_some (fun vs H Q E h => ?_) (fun cdv A outer s H vs Q E hr h => ?_)
  · obtain ⟨p, l, k, n, xs, rfl, _⟩ := h
    rfl
  · obtain ⟨p, l, k, n, xs, rfl, B, hn, hk, hL, nlp, hnd, hxl, hnm, q⟩ := h
    refine ⟨_, PSs.nox (pss_cons (ps_set (i := 3) sc_law_some.nd rfl (Or.inl rfl) (pe_callTy (T := "list")  call_list_of (by rfl) T.n_list (by decide +kernel) (pa_cons (pv 1) pa_nil)))
      (pss_cons (ps_set (i := 4) sc_law_some.nd rfl (Or.inl rfl) (pe_lst pa_nil))
      (pss_cons (ps_for PassesOwn.never rfl (pi_range1 (by rfl) T.n_range (pa_cons (pe_call (ok_law_take T) (hr.mono (by decide)) (by rfl) T.m_law_take T.F_law_take.kp T.b_law_take .nil pass0 (pa_cons (pv 0) (pa_cons (pe_op op_add (pv 2) pe_int) pa_nil))) pa_nil)) (pg_name (i := 5) sc_law_some.nd rfl (Or.inl rfl))
      (pss_one (ps_if (pt_cmpR (op_neD hr.units) (pv 3) (pe_lst pa_nil) (nomark _))
      (pss_one (ps_expr (pe_bm PySem.F.plainAttrs_list PySem.F.slot_list_append PySem.F.type_list_append mt_append (pv 4) (pa_cons (pe_bm PySem.F.plainAttrs_list PySem.F.slot_list_pop PySem.F.type_list_pop mt_popAt (pv 3) (pa_cons (pe_call (ok_law_take T) (hr.mono (by decide)) (by rfl) T.m_law_take T.F_law_take.kp T.b_law_take .nil pass0 (pa_cons (pv 0) (pa_cons (pe_callB (id := "len")  call_len_seq (by rfl) T.n_len (by decide +kernel) (pa_cons (pv 3) pa_nil)) pa_nil))) pa_nil)) pa_nil))))
      pss_nil)))
      (pss_one (ps_ret (pe_callTy (T := "tuple")  call_tuple_of (by rfl) T.n_tuple (by decide +kernel) (pa_cons (pv 4) pa_nil))))))), ?_⟩
    -- left = list(pool); found = []
    refine ⟨_, rfl, l, _, rfl, .inl hL, fun a na => ?_⟩
    generalize hE1 : upd H a _ = H1
    have w1 := new_at hE1
    have s1 := new_same hE1 na
    have npa := B.ne na
    refine ⟨by show 0 ≤ sizeLine; decide, fun b nb => ?_⟩
    generalize hE2 : upd H1 b _ = H2
    have w2 := new_at hE2
    have s2 := new_same hE2 nb
    have npb := (B.same s1).ne nb
    have nab : a ≠ b := ne_some w1 nb
    have nbH : H b = none := s1.free nb
    -- range(take(bag, most + 1))
    refine ⟨_, rfl, _, rfl, _, _, rfl, rfl, ?_⟩
    refine take_of (z := (k : Int) + 1) ((B.same s1).same s2) (by omega) (by omega) (by omega) fun r3 H3 a3 b3 B3 k3 => ?_
    have kA : Kp p H H3 := (Kp.of (s1.trans s2)).trans k3
    refine ⟨r3, rfl, by omega, by omega, for_range (lo := 0) (n := r3.toNat) (fun i σ H' => Bag (n + 1 + i) H' p ∧ Kp p H H' ∧ ∃ (ls fs : List Str) (y : Option V), H' a = some (.lst (ls.map V.str)) ∧ H' b = some (.lst (fs.map V.str)) ∧ (fs ++ ls).Nodup ∧ (∀ x ∈ fs ++ ls, x ∈ xs) ∧ fs.length ≤ i ∧ ls.length ≤ 100 ∧
        σ = [some (.ref p), some (.ref l), some (.int k), some (.ref a), some (.ref b), y])
      ⟨B3, kA, xs, [], none, k3 _ _ (s2 _ _ w1) npa.symm, k3 _ _ w2 npb.symm, hnd, fun x hx => hx, Nat.le_refl _, hxl, rfl⟩ ?_ ?_⟩
    · rintro i σ H4 hi ⟨B4, k4, ls, fs, y, wa, wb, hnd4, hsub, hfl, hll, rfl⟩
      have nmL : ∀ x ∈ ls, Nm x := fun x hx => hnm x (hsub x (List.mem_append_right _ hx))
      -- if left != []
      refine ⟨_, rfl, by show 0 ≤ sizeLine; decide, fun l5 n5 => ?_⟩
      generalize hE5 : upd H4 l5 _ = H5
      have w5 : H5 l5 = some (.lst (([] : List Str).map V.str)) := new_at hE5
      have s5 := new_same hE5 n5
      have wa5 := s5 _ _ wa
      have wb5 := s5 _ _ wb
      refine neD_strs (SqL.of wa5) (SqL.of w5) (fun x hx => (nmL x hx).ok) (fun x hx => nomatch hx) ⟨_, rfl, ?_⟩
      by_cases hls : ls = []
      · rw [decide_eq_true hls]
        refine iteF ?_
        exact ⟨(B4.same s5).le (by omega), k4.same s5, ls, fs, _, wa5, wb5, hnd4, hsub, by omega, hll, rfl⟩
      · rw [decide_eq_false hls]
        refine iteT ?_
        have hpos : 0 < ls.length := List.length_pos_iff.mpr hls
        -- found.append(left.pop(take(bag, len(left))))
        refine ⟨_, rfl, .inl ⟨rfl, _, SqL.of wb5⟩, _, rfl, .inl ⟨rfl, _, SqL.of wa5⟩, _, rfl, _, rfl, a, _, rfl, .inl (SqL.of wa5), ?_⟩
        refine take_of (z := ((ls.map V.str).length : Int)) (B4.same s5) (by rw [List.length_map]; omega) (by rw [List.length_map]; omega) (by omega) fun r6 H6 a6 b6 B6 k6 => ?_
        rw [List.length_map] at b6
        have hr : r6.toNat < ls.length := by omega
        have wa6 := k6 _ _ wa5 npa.symm
        have wb6 := k6 _ _ wb5 npb.symm
        refine ⟨a, _, r6, r6.toNat, .str ls[r6.toNat], rfl, rfl, wa6, by omega, by omega, by rw [List.length_map]; exact seq_ix a6 b6, by rw [List.getElem?_map, List.getElem?_eq_getElem hr]; rfl, ?_⟩
        generalize hE7 : upd H6 a _ = H7
        have wa7 := new_at hE7
        have m7 := mut_keep hE7
        have wb7 := m7 _ _ wb6 nab.symm
        refine ⟨b, _, _, rfl, rfl, wb7, by rw [List.length_map]; exact small1000 (by omega), ?_⟩
        generalize hE8 : upd H7 b _ = H8
        have wb8 := new_at hE8
        have m8 := mut_keep hE8
        have hperm : (fs ++ [ls[r6.toNat]] ++ ls.eraseIdx r6.toNat).Perm (fs ++ ls) := by
          rw [List.append_assoc]
          exact List.Perm.append_left fs (perm_pick ls r6.toNat hr)
        refine ⟨((B6.keep m7 npa).keep m8 npb).le (by omega), (((k4.same s5).trans k6).own m7 na).own m8 nbH, ls.eraseIdx r6.toNat, fs ++ [ls[r6.toNat]], _, ?_, by rw [List.map_append]; exact wb8, hperm.nodup_iff.mpr hnd4, fun x hx => hsub x (hperm.mem_iff.mp hx), by rw [List.length_append]; exact Nat.succ_le_succ hfl, Nat.le_trans (List.length_eraseIdx_le ..) hll, rfl⟩
        have wa8 := m8 _ _ wa7 nab
        rw [map_pick] at wa8
        exact wa8
    · rintro σ H4 ⟨B4, k4, ls, fs, y, wa, wb, hnd4, hsub, hfl, hll, rfl⟩
      refine ⟨_, rfl, b, _, rfl, .inl ⟨SqL.of wb, fun t nt => ?_⟩⟩
      have ntp := (B4.ne nt).symm
      exact q fs t _ (List.nodup_append.mp hnd4).1 (fun y hy => hsub y (List.mem_append_left _ hy)) (by omega) (k4.free nt ntp) upd_same ((B4.same (same_upd nt)).le (by omega)) (k4.same (same_upd nt))

/-! ### a rule, its parts -/
def sp_law_rule_parts (K : PySem.W.Frag) : Sp := fun vs H Q _ => ∃ (p : Addr) (n : Nat), vs = [.ref p] ∧ Bag n H p ∧ n < 800000000 ∧
  ∀ (f m t b s : Int) (v : Addr) H', Five f m t b s → H v = none → H' v = some (.tup [.int f, .int m, .int t, .int b, .int s]) → Bag (n + 10) H' p → Kp p H H' → Q (.ref v) H'
theorem ok_law_rule_parts (T : Txt K mg) : FnOk P w K mg base CX0 2 (He.fAd K ("_law_rule_parts", none)) T.d_law_rule_parts ["_law_bag_here"] (sp_law_rule_parts K) := by
  refine T.F_law_rule_parts.ok sc_law_rule_parts (fun vs H Q E h => ?_) (fun cdv A outer s H vs Q E hr h => ?_)
  · obtain ⟨p, n, rfl, _⟩ := h
    rfl
  · obtain ⟨p, n, rfl, B, hn, q⟩ := h
    refine ⟨_, PSs.nox (pss_cons (ps_set (i := 1) sc_law_rule_parts.nd rfl (Or.inl rfl) (pe_lst (pa_cons (pe_op op_add pe_int (pe_call (ok_law_take T) (hr.mono (by decide)) (by rfl) T.m_law_take T.F_law_take.kp T.b_law_take .nil pass0 (pa_cons (pv 0) (pa_cons (pe_ix ix_list (pe_lst (pa_cons pe_int (pa_cons pe_int pa_nil))) (pe_call (ok_law_take T) (hr.mono (by decide)) (by rfl) T.m_law_take T.F_law_take.kp T.b_law_take .nil pass0 (pa_cons (pv 0) (pa_cons pe_int pa_nil))) (fun _ _ => rfl)) pa_nil)))) (pa_cons (pe_op op_add pe_int (pe_call (ok_law_take T) (hr.mono (by decide)) (by rfl) T.m_law_take T.F_law_take.kp T.b_law_take .nil pass0 (pa_cons (pv 0) (pa_cons (pe_ix ix_list (pe_lst (pa_cons pe_int (pa_cons pe_int pa_nil))) (pe_call (ok_law_take T) (hr.mono (by decide)) (by rfl) T.m_law_take T.F_law_take.kp T.b_law_take .nil pass0 (pa_cons (pv 0) (pa_cons pe_int pa_nil))) (fun _ _ => rfl)) pa_nil)))) pa_nil))))
      (pss_cons (ps_expr (pe_bm PySem.F.plainAttrs_list PySem.F.slot_list_append PySem.F.type_list_append mt_append (pv 1) (pa_cons (pe_op op_add pe_int (pe_call (ok_law_take T) (hr.mono (by decide)) (by rfl) T.m_law_take T.F_law_take.kp T.b_law_take .nil pass0 (pa_cons (pv 0) (pa_cons (pe_ix ix_list (pe_lst (pa_cons pe_int (pa_cons pe_int (pa_cons (pe_op op_powL pe_int pe_int) pa_nil)))) (pe_call (ok_law_take T) (hr.mono (by decide)) (by rfl) T.m_law_take T.F_law_take.kp T.b_law_take .nil pass0 (pa_cons (pv 0) (pa_cons pe_int pa_nil))) (fun _ _ => rfl)) pa_nil)))) pa_nil)))
      (pss_cons (ps_expr (pe_bm PySem.F.plainAttrs_list PySem.F.slot_list_append PySem.F.type_list_append mt_append (pv 1) (pa_cons (pe_call (ok_law_take T) (hr.mono (by decide)) (by rfl) T.m_law_take T.F_law_take.kp T.b_law_take .nil pass0 (pa_cons (pv 0) (pa_cons (pe_ix ix_list (pe_lst (pa_cons pe_int (pa_cons pe_int pa_nil))) (pe_call (ok_law_take T) (hr.mono (by decide)) (by rfl) T.m_law_take T.F_law_take.kp T.b_law_take .nil pass0 (pa_cons (pv 0) (pa_cons pe_int pa_nil))) (fun _ _ => rfl)) pa_nil))) pa_nil)))
      (pss_one (ps_ret (pe_callTy (T := "tuple")  call_tuple_of (by rfl) T.n_tuple (by decide +kernel) (pa_cons (pe_op op_cat (pv 1) (pe_lst (pa_cons (pe_call (ok_law_take T) (hr.mono (by decide)) (by rfl) T.m_law_take T.F_law_take.kp T.b_law_take .nil pass0 (pa_cons (pv 0) (pa_cons (pe_ix ix_list (pe_lst (pa_cons pe_int (pa_cons pe_int (pa_cons (pe_op op_add (pe_op op_powL pe_int pe_int) pe_int) pa_nil)))) (pe_call (ok_law_take T) (hr.mono (by decide)) (by rfl) T.m_law_take T.F_law_take.kp T.b_law_take .nil pass0 (pa_cons (pv 0) (pa_cons pe_int pa_nil))) (fun _ _ => rfl)) pa_nil))) pa_nil))) pa_nil))))))), ?_⟩
    refine ⟨_, rfl, by show 2 ≤ sizeLine; decide, fun l1 n1 => ⟨_, rfl, ?_⟩⟩
    refine take_menu (zs := [3, 1000]) B (by omega) n1 rfl (by decide) (by decide) (by decide) fun z1 r1 H1 hz1 a1 b1 B1 k1 => ?_
    refine ⟨_, _, rfl, rfl, _, rfl, by show 2 ≤ sizeLine; decide, fun l2 n2 => ⟨_, rfl, ?_⟩⟩
    refine take_menu (zs := [3, 10]) B1 (by omega) n2 rfl (by decide) (by decide) (by decide) fun z2 r2 H2 hz2 a2 b2 B2 k2 => ?_
    have k12 := k1.trans k2
    refine ⟨_, _, rfl, rfl, by show 2 ≤ sizeLine; decide, fun some n3 => ?_⟩
    have npS := B2.ne n3
    have n3' := k12.free n3 npS.symm
    generalize hE : upd H2 some _ = H3
    have w3 := new_at hE
    have s3 := new_same hE n3
    have k13 := k12.same s3
    -- append top
    refine ⟨_, rfl, .inl ⟨rfl, _, SqL.of w3⟩, _, rfl, _, _, rfl, rfl, pow10, by show 3 ≤ sizeLine; decide, fun l4 n4 => ⟨_, rfl, ?_⟩⟩
    refine take_menu (zs := [20, 1000, 10 ^ (6 : Int).toNat]) (B2.same s3) (by omega) n4 rfl (by decide) (by decide) (by decide) fun z3 r3 H4 hz3 a3 b3 B4 k4 => ?_
    have w4 := k4 _ _ w3 npS.symm
    refine ⟨_, _, rfl, rfl, some, _, _, rfl, rfl, w4, by show 2 < sizeLine; decide, ?_⟩
    generalize hE5 : upd H4 some _ = H5
    have w5 := new_at hE5
    have m5 := mut_keep hE5
    have B5 := B4.keep m5 npS
    have k15 := (k13.trans k4).own m5 n3'
    -- append burst
    refine ⟨_, rfl, .inl ⟨rfl, _, SqL.of w5⟩, _, rfl, by show 2 ≤ sizeLine; decide, fun l6 n6 => ⟨_, rfl, ?_⟩⟩
    refine take_menu (zs := [4, 21]) B5 (by omega) n6 rfl (by decide) (by decide) (by decide) fun z4 r4 H6 hz4 a4 b4 B6 k6 => ?_
    have w6 := k6 _ _ w5 npS.symm
    refine ⟨some, _, _, rfl, rfl, w6, by show 3 < sizeLine; decide, ?_⟩
    generalize hE7 : upd H6 some _ = H7
    have w7 := new_at hE7
    have m7 := mut_keep hE7
    have B7 := B6.keep m7 npS
    have k17 := (k15.trans k6).own m7 n3'
    -- tuple(some + [span])
    refine ⟨_, rfl, _, rfl, _, _, rfl, rfl, pow10, _, _, rfl, rfl, by show 3 ≤ sizeLine; decide, fun l8 n8 => ⟨_, rfl, ?_⟩⟩
    refine take_menu (zs := [30, 1000, 10 ^ (6 : Int).toNat + 1]) B7 (by omega) n8 rfl (by decide) (by decide) (by decide) fun z5 r5 H8 hz5 a5 b5 B8 k8 => ?_
    have w8 := k8 _ _ w7 npS.symm
    refine ⟨by show 1 ≤ sizeLine; decide, fun l9 n9 => ?_⟩
    generalize hE9 : upd H8 l9 _ = H9
    have w9 := new_at hE9
    have s9 := new_same hE9 n9
    refine ⟨some, l9, _, _, rfl, rfl, s9 _ _ w8, w9, by show 5 ≤ sizeLine; decide, fun l10 n10 => ?_⟩
    generalize hE10 : upd H9 l10 _ = H10
    have w10 := new_at hE10
    have s10 := new_same hE10 n10
    refine ⟨l10, _, rfl, .inl ⟨SqL.of w10, fun v nv => ?_⟩⟩
    generalize hE11 : upd H10 v _ = H11
    have w11 := new_at hE11
    have s11 := new_same hE11 nv
    have s8 : Same H8 H11 := (s9.trans s10).trans s11
    have k18 : Kp p H H11 := (k17.trans k8).same s8
    have npv : v ≠ p := fun e => by
      rw [e] at nv
      obtain ⟨o, ho⟩ := (B8.same (s9.trans s10)).some
      rw [ho] at nv
      cases nv
    refine q (1 + r1) (1 + r2) (1 + r3) r4 r5 v H11 ⟨?_, ?_, ?_, ?_, ?_, ?_, ?_, ?_, ?_, ?_⟩ (k17.trans k8 |>.same (s9.trans s10) |>.free nv npv) w11 (B8.same s8) k18
    all_goals (have e6 : (10 : Int) ^ (6 : Int).toNat = 1000000 := by decide
               simp only [List.mem_cons, List.not_mem_nil, or_false, e6] at hz1 hz2 hz3 hz4 hz5; omega)

/-! ### the rule itself -/
abbrev rFs (f m t b s : Int) : List (Str × V) := [("first", .int f), ("times", .int m), ("top", .int t), ("burst", .int b), ("span", .int s)]
/-- a rule stands at a -/
def RuleAt (K : PySem.W.Frag) (H : Hp) (a : Addr) (f m t b s : Int) : Prop := ∃ dx, H a = some (.ins (He.ga K "Rule") dx (rFs f m t b s))
theorem RuleAt.same {H H' : Hp} {a : Addr} {f m t b s : Int} (h : RuleAt K H a f m t b s) (e : Same H H') : RuleAt K H' a f m t b s := by
  obtain ⟨dx, h⟩ := h
  exact ⟨dx, e _ _ h⟩
theorem RuleAt.keep {H H' : Hp} {a p : Addr} {f m t b s : Int} (h : RuleAt K H a f m t b s) (e : Kp p H H') (n : a ≠ p) : RuleAt K H' a f m t b s := by
  obtain ⟨dx, h⟩ := h
  exact ⟨dx, e _ _ h n⟩
def sp_Rule_init (K : PySem.W.Frag) : Sp := fun vs H Q _ => ∃ (p dx : Addr) (f m t b s : Int), vs = [.ref p, .int f, .int m, .int t, .int b, .int s] ∧ H p = some (.ins (He.ga K "Rule") dx []) ∧
  ∀ H', H' p = some (.ins (He.ga K "Rule") dx (rFs f m t b s)) → Kp p H H' → Q .non H'
theorem ok_Rule_init (T : Txt K mg) : FnOk P w K mg base CX0 1 (He.fAd K ("Rule", some "__init__")) T.d_Rule_init ["self", "first", "times", "top", "burst", "span"] (sp_Rule_init K) := by
  refine T.F_Rule_init.ok sc_Rule_init (fun vs H Q E h => ?_) (fun cdv A outer s H vs Q E hr h => ?_)
  · obtain ⟨p, dx, f, m, t, b, s, rfl, _⟩ := h
    rfl
  · obtain ⟨p, dx, f, m, t, b, s, rfl, hp, q⟩ := h
    refine ⟨_, PSs.nox (pss_cons (ps_fld (pv 0) (pv 1) rfl)
      (pss_cons (ps_fld (pv 0) (pv 2) rfl)
      (pss_cons (ps_fld (pv 0) (pv 3) rfl)
      (pss_cons (ps_fld (pv 0) (pv 4) rfl)
      (pss_one (ps_fld (pv 0) (pv 5) rfl)))))), ?_⟩
    refine ⟨_, rfl, _, rfl, p, _, dx, [], rfl, hp, T.cl_Rule, T.na_Rule_first, (by show 0 < 1000; decide), ?_⟩
    refine ⟨_, rfl, _, rfl, p, _, dx, _, rfl, upd_same, T.cl_Rule, T.na_Rule_times, (by show 1 < 1000; decide), ?_⟩
    refine ⟨_, rfl, _, rfl, p, _, dx, _, rfl, upd_same, T.cl_Rule, T.na_Rule_top, (by show 2 < 1000; decide), ?_⟩
    refine ⟨_, rfl, _, rfl, p, _, dx, _, rfl, upd_same, T.cl_Rule, T.na_Rule_burst, (by show 3 < 1000; decide), ?_⟩
    refine ⟨_, rfl, _, rfl, p, _, dx, _, rfl, upd_same, T.cl_Rule, T.na_Rule_span, (by show 4 < 1000; decide), ?_⟩
    refine q _ upd_same fun c o h n => ?_
    rw [upd_ne n, upd_ne n, upd_ne n, upd_ne n, upd_ne n]
    exact h

def sp_law_rule (K : PySem.W.Frag) : Sp := fun vs H Q _ => ∃ (v : Addr) (f m t b s : Int), vs = [.ref v] ∧ SqT K H v [.int f, .int m, .int t, .int b, .int s] ∧
  ∀ a H', H a = none → Same H H' → RuleAt K H' a f m t b s → Q (.ref a) H'
theorem ok_law_rule (T : Txt K mg) : FnOk P w K mg base CX0 3 (He.fAd K ("_law_rule", none)) T.d_law_rule ["_law_five"] (sp_law_rule K) := by
  refine T.F_law_rule.ok sc_law_rule (fun vs H Q E h => ?_) (fun cdv A outer s H vs Q E hr h => ?_)
  · obtain ⟨v, f, m, t, b, s, rfl, _⟩ := h
    rfl
  · obtain ⟨v, f, m, t, b, s, rfl, hv, q⟩ := h
    refine ⟨_, PSs.nox (pss_one (ps_ret (pe_makeK0 T.mk_Rule (ok_Rule_init T) (hr.mono (by decide)) (by rfl) T.m_Rule T.kb_Rule_init_1_first_times_top_burst_span.choose_spec pass0 (pk_cons (pe_ix ix_tup (pv 0) pe_int (fun _ _ => rfl)) (pk_cons (pe_ix ix_tup (pv 0) pe_int (fun _ _ => rfl)) (pk_cons (pe_ix ix_tup (pv 0) pe_int (fun _ _ => rfl)) (pk_cons (pe_ix ix_tup (pv 0) pe_int (fun _ _ => rfl)) (pk_cons (pe_ix ix_tup (pv 0) pe_int (fun _ _ => rfl)) pk_nil)))))))), ?_⟩
    refine ⟨_, rfl, v, _, _, _, rfl, rfl, hv, at0, _, rfl, v, _, _, _, rfl, rfl, hv, at1, _, rfl, v, _, _, _, rfl, rfl, hv, at2, _, rfl, v, _, _, _, rfl, rfl, hv, at3, _, rfl, v, _, _, _, rfl, rfl, hv, at4, rfl, rfl, fun x dx nx nd ne => ?_⟩
    refine ⟨x, dx, f, m, t, b, s, rfl, upd_same, fun H' w kp => ⟨rfl, q x H' nx (Same.made nx nd fun b o e n => kp b o e n) ⟨dx, w⟩⟩⟩

-- SPLIT
/-! ### the facts -/
def sp_law_facts (K : PySem.W.Frag) : Sp := fun vs H Q _ => ∃ (p : Addr) (k n : Nat), vs = [.ref p, .int k] ∧ Bag n H p ∧ n < 600000000 ∧ 0 < k ∧ k ≤ 16 ∧
  ∀ (ns ss : List Str) (us : List (Str × UF)) (kvs : List (Key × V)) (d : Addr) H', us.map (·.1) = ns → ns.Nodup → (∀ x ∈ ns, Nm x) → 0 < ns.length → ns.length ≤ k → ss.Nodup → (∀ x ∈ ss, Nm x ∧ x ∉ ns) → ss.length ≤ 2 →
    (∀ q ∈ us, UOk ns ss q.1 q.2) → FactsAt H' kvs us → H d = none → H' d = some (.dK kvs) → Bag (n + 2000) H' p → Kp p H H' → Q (.ref d) H'
theorem ok_law_facts (T : Txt K mg) : FnOk P w K mg base CX0 4 (He.fAd K ("_law_facts", none)) T.d_law_facts ["_law_bag_here", "_law_most"] (sp_law_facts K) := by
  refine T.F_law_facts.ok sc_law_facts (fun vs H Q E h => ?_) (fun cdv A outer s H vs Q E hr h => ?_)
  · obtain ⟨p, k, n, rfl, _⟩ := h
    rfl
  · obtain ⟨p, k, n, rfl, B, hn, hk0, hk, q⟩ := h
    refine ⟨_, PSs.nox (pss_cons (ps_set (i := 2) sc_law_facts.nd rfl (Or.inr rfl) (pe_call (ok_law_names T) (hr.mono (by decide)) (by rfl) T.m_law_names T.F_law_names.kp T.b_law_names .nil pass0 (pa_cons (pv 0) (pa_cons (pe_op op_add pe_int (pe_call (ok_law_take T) (hr.mono (by decide)) (by rfl) T.m_law_take T.F_law_take.kp T.b_law_take .nil pass0 (pa_cons (pv 0) (pa_cons (pv 1) pa_nil)))) pa_nil))))
      (pss_cons (ps_set (i := 3) sc_law_facts.nd rfl (Or.inl rfl) (pe_slice sl_list (pe_lc (own := [("_law_one", 16)]) (by rfl) sc_law_facts.nd (pi_str pe_str) (blkOk_by (own := [("_law_one", 16)]) (N := N_law_facts) (sc := defScope s_law_facts) (by decide +kernel)) (fun _ _ _ _ _ => (pg_name (i := 16) sc_law_facts.nd rfl (Or.inl rfl))) (fun _ _ _ _ _ => (pts_one (pt_cmpR (r := rIn K true) op_notIn_seq (pe_op op_add_str (pv 16) pe_str) (pv 2) (by rfl)))) (fun _ _ _ _ _ => (pe_op op_add_str (pv 16) pe_str))) po_none (po_some pe_int)))
      (pss_cons (ps_set (i := 4) sc_law_facts.nd rfl (Or.inl rfl) (pe_cmpR op_eq (pe_call (ok_law_take T) (hr.mono (by decide)) (by rfl) T.m_law_take T.F_law_take.kp T.b_law_take .nil pass0 (pa_cons (pv 0) (pa_cons pe_int pa_nil))) pe_int (nomark _)))
      (pss_cons (ps_set (i := 5) sc_law_facts.nd rfl (Or.inl rfl) pe_dnewK)
      (pss_cons (ps_for PassesOwn.never rfl (pi_list (pv 2)) (pg_name (i := 6) sc_law_facts.nd rfl (Or.inr rfl))
      (pss_cons (ps_setLc (i := 7) (own := [("_law_one", 16)]) (by rfl) sc_law_facts.nd rfl rfl (sw_true rfl rfl rfl (by decide +kernel)) (pi_list (pv 2)) (blkOk_by (own := [("_law_one", 16)]) (N := N_law_facts) (sc := defScope s_law_facts) (by decide +kernel)) (fun _ _ _ _ _ => (pg_name (i := 16) sc_law_facts.nd rfl (Or.inl rfl))) (fun _ _ _ _ _ => (pts_one (pt_cmpR op_ne (pv 16) (pv 6) (nomark _)))) (fun _ _ _ _ _ => (pv 16)))
      (pss_cons (ps_set (i := 8) sc_law_facts.nd rfl (Or.inl rfl) (pe_ix ix_list (pe_lst (pa_cons pe_int (pa_cons pe_int (pa_cons pe_int (pa_cons pe_int (pa_cons pe_int pa_nil)))))) (pe_call (ok_law_take T) (hr.mono (by decide)) (by rfl) T.m_law_take T.F_law_take.kp T.b_law_take .nil pass0 (pa_cons (pv 0) (pa_cons pe_int pa_nil))) (fun _ _ => rfl)))
      (pss_cons (ps_set (i := 9) sc_law_facts.nd rfl (Or.inl rfl) (pe_call (ok_law_some T) (hr.mono (by decide)) (by rfl) T.m_law_some T.F_law_some.kp T.b_law_some .nil pass0 (pa_cons (pv 0) (pa_cons (pe_op op_cat (pv 7) (pe_slice sl_list (pv 3) po_none (po_some (pe_callTy (T := "int")  call_int1 (by rfl) T.n_int (by decide +kernel) (pa_cons (pe_cmpR op_eq (pe_call (ok_law_take T) (hr.mono (by decide)) (by rfl) T.m_law_take T.F_law_take.kp T.b_law_take .nil pass0 (pa_cons (pv 0) (pa_cons pe_int pa_nil))) pe_int (nomark _)) pa_nil))))) (pa_cons (pv 8) pa_nil)))))
      (pss_cons (ps_set (i := 10) sc_law_facts.nd rfl (Or.inl rfl) (pe_call (ok_law_some T) (hr.mono (by decide)) (by rfl) T.m_law_some T.F_law_some.kp T.b_law_some .nil pass0 (pa_cons (pv 0) (pa_cons (pe_op op_cat (pv 7) (pe_slice sl_list (pv 3) po_none (po_some (pe_callTy (T := "int")  call_int1 (by rfl) T.n_int (by decide +kernel) (pa_cons (pe_cmpR op_eq (pe_call (ok_law_take T) (hr.mono (by decide)) (by rfl) T.m_law_take T.F_law_take.kp T.b_law_take .nil pass0 (pa_cons (pv 0) (pa_cons pe_int pa_nil))) pe_int (nomark _)) pa_nil))))) (pa_cons (pe_ix ix_list (pe_lst (pa_cons pe_int (pa_cons pe_int (pa_cons pe_int pa_nil)))) (pe_call (ok_law_take T) (hr.mono (by decide)) (by rfl) T.m_law_take T.F_law_take.kp T.b_law_take .nil pass0 (pa_cons (pv 0) (pa_cons pe_int pa_nil))) (fun _ _ => rfl)) pa_nil)))))
      (pss_cons (ps_set (i := 11) sc_law_facts.nd rfl (Or.inl rfl) (pe_call (ok_law_some T) (hr.mono (by decide)) (by rfl) T.m_law_some T.F_law_some.kp T.b_law_some .nil pass0 (pa_cons (pv 0) (pa_cons (pe_op op_cat (pv 7) (pe_slice sl_list (pv 3) po_none (po_some pe_int))) (pa_cons (pe_op op_mul (pe_ix ix_list (pe_lst (pa_cons pe_int (pa_cons pe_int (pa_cons pe_int (pa_cons pe_int pa_nil))))) (pe_call (ok_law_take T) (hr.mono (by decide)) (by rfl) T.m_law_take T.F_law_take.kp T.b_law_take .nil pass0 (pa_cons (pv 0) (pa_cons pe_int pa_nil))) (fun _ _ => rfl)) (pe_callTy (T := "int")  call_int1 (by rfl) T.n_int (by decide +kernel) (pa_cons (pe_not (pv 4)) pa_nil))) pa_nil)))))
      (pss_cons (ps_set (i := 12) sc_law_facts.nd rfl (Or.inl rfl) (pe_call (ok_law_some T) (hr.mono (by decide)) (by rfl) T.m_law_some T.F_law_some.kp T.b_law_some .nil pass0 (pa_cons (pv 0) (pa_cons (pe_op op_cat (pv 7) (pv 3)) (pa_cons (pe_ix ix_list (pe_lst (pa_cons pe_int (pa_cons pe_int (pa_cons pe_int (pa_cons pe_int pa_nil))))) (pe_call (ok_law_take T) (hr.mono (by decide)) (by rfl) T.m_law_take T.F_law_take.kp T.b_law_take .nil pass0 (pa_cons (pv 0) (pa_cons pe_int pa_nil))) (fun _ _ => rfl)) pa_nil)))))
      (pss_cons (ps_set (i := 13) sc_law_facts.nd rfl (Or.inl rfl) (pe_ix ix_list (pe_lst (pa_cons pe_str (pa_cons pe_str (pa_cons pe_str (pa_cons pe_str (pa_cons pe_str pa_nil)))))) (pe_call (ok_law_take T) (hr.mono (by decide)) (by rfl) T.m_law_take T.F_law_take.kp T.b_law_take .nil pass0 (pa_cons (pv 0) (pa_cons pe_int pa_nil))) (fun _ _ => rfl)))
      (pss_cons (ps_set (i := 14) sc_law_facts.nd rfl (Or.inl rfl) (pe_mid (pe_ifExp (pt_cmpR op_eq (pv 13) pe_str (nomark _)) (pe_ix ix_list (pe_op op_cat (pv 7) (pv 3)) (pe_call (ok_law_take T) (hr.mono (by decide)) (by rfl) T.m_law_take T.F_law_take.kp T.b_law_take .nil pass0 (pa_cons (pv 0) (pa_cons (pe_op op_add (pe_callB (id := "len")  call_len_seq (by rfl) T.n_len (by decide +kernel) (pa_cons (pv 7) pa_nil)) pe_int) pa_nil))) (fun _ _ => rfl)) pe_non)))
      (pss_cons (ps_set (i := 15) sc_law_facts.nd rfl (Or.inl rfl) (pe_mid (pe_ifExp (pt_cmpR op_gt (pe_call (ok_law_take T) (hr.mono (by decide)) (by rfl) T.m_law_take T.F_law_take.kp T.b_law_take .nil pass0 (pa_cons (pv 0) (pa_cons pe_int pa_nil))) pe_int (nomark _)) (pe_call (ok_law_rule_parts T) (hr.mono (by decide)) (by rfl) T.m_law_rule_parts T.F_law_rule_parts.kp T.b_law_rule_parts .nil pass0 (pa_cons (pv 0) pa_nil)) pe_non)))
      (pss_one (ps_dput (hu_of hr) (pv 5) (pv 6) (pe_tup (pa_cons (pv 13) (pa_cons (pv 9) (pa_cons (pv 10) (pa_cons (pv 11) (pa_cons (pv 12) (pa_cons (pv 14) (pa_cons (pv 15) pa_nil)))))))) rfl))))))))))))
      (pss_one (ps_ret (pv 5)))))))), ?_⟩
    -- named = names(bag, 1 + take(bag, most))
    refine ⟨_, rfl, _, rfl, _, rfl, ?_⟩
    refine take_of (z := (k : Int)) B (by omega) (by omega) (by omega) fun r1 H1 a1 b1 B1 k1 => ?_
    obtain ⟨j1, rfl⟩ := Int.eq_ofNat_of_zero_le a1
    refine ⟨_, _, rfl, rfl, p, 1 + j1, n + 1, rfl, B1, by omega, by omega, fun ns l H2 hnl hnd hnm nl w2 B2 k2 => ?_⟩
    have kA := k1.trans k2
    have npl : l ≠ p := fun e => by
      obtain ⟨o, ho⟩ := B1.some
      rw [e, ho] at nl
      cases nl
    -- strange
    refine ⟨_, rfl, fun D nD => ?_⟩
    refine lc_it (walk_str (z := srettelS)) (fun j H' => Same H2 H' ∧ H' D = some (.lst ((((List.range j).map fun i => (⟨#[122 - i]⟩ : Str) ++ Str.ofString "zz").filter fun x => decide (x ∉ ns)).map V.str))) ⟨same_upd nD, upd_same⟩ (fun _ _ _ _ => trivial) ?_ ?_
    · rintro j x H4 H4' hj ⟨s4, w4⟩ ⟨rfl, c, hc', rfl⟩
      obtain ⟨hj26, rfl⟩ := srettel_get hc'
      refine ⟨rfl, ?_⟩
      have ltot : ((⟨#[122 - j]⟩ : Str).length + (Str.ofString "zz").length) ≤ sizeLine := by
        have h1 : (⟨#[122 - j]⟩ : Str).length = 1 := rfl
        rw [h1]
        decide +kernel
      refine ⟨_, rfl, _, _, rfl, rfl, ltot, _, rfl, l, _, rfl, .inl (SqL.of (s4 _ _ w2)), rfl, strs_flat ns, _, rfl, ?_⟩
      rw [range_map_succ', List.filter_append, List.map_append]
      show if (if true = true then !inV (.str ((⟨#[122 - j]⟩ : Str) ++ Str.ofString "zz")) (ns.map V.str) else _) = true then _ else _
      rw [if_pos rfl, inV_str]
      by_cases hin : (⟨#[122 - j]⟩ : Str) ++ Str.ofString "zz" ∈ ns
      · rw [decide_eq_true hin]
        refine iteF ⟨s4, ?_⟩
        rw [List.filter_cons_of_neg (p := fun x => decide (x ∉ ns)) (by rw [decide_eq_false (fun z => z hin)]; exact Bool.false_ne_true)]
        rw [List.filter_nil, List.map_nil, List.append_nil]
        exact w4
      · rw [decide_eq_false hin]
        refine iteT ?_
        refine ⟨_, rfl, _, _, rfl, rfl, ltot, _, w4, ?_, Same.own (q := D) (H1 := H4') s4 (mut_keep rfl) nD, ?_⟩
        · rw [List.length_map]
          refine Nat.lt_of_le_of_lt (List.length_filter_le _ _) ?_
          rw [List.length_map, List.length_range]
          exact small1000 (by omega)
        · rw [upd_same, List.filter_cons_of_pos (p := fun x => decide (x ∉ ns)) (decide_eq_true hin)]
          rfl
    rintro H4 ⟨s4, w4⟩
    rw [srettel_size] at w4
    have hpos := filter_free (rcands_nodup (Str.ofString "zz")) (ds := ns) (by unfold rcands; rw [List.length_map, List.length_range]; omega)
    have hcn := List.Nodup.sublist List.filter_sublist (rcands_nodup (Str.ofString "zz")) (l₁ := (rcands (Str.ofString "zz")).filter fun x => decide (x ∉ ns))
    have hcm : ∀ x ∈ (rcands (Str.ofString "zz")).filter fun x => decide (x ∉ ns), Nm x ∧ x ∉ ns := fun x hx => by
      obtain ⟨h1, h2⟩ := List.mem_filter.mp hx
      obtain ⟨i, hi, rfl⟩ := List.mem_map.mp h1
      exact ⟨rcand_nm (List.mem_range.mp hi), of_decide_eq_true h2⟩
    change H4 D = some (.lst (((rcands (Str.ofString "zz")).filter fun x => decide (x ∉ ns)).map V.str)) at w4
    generalize (rcands (Str.ofString "zz")).filter (fun x => decide (x ∉ ns)) = fs at hpos hcn hcm w4
    refine ⟨_, rfl, D, _, rfl, SqL.of w4, fun a na => ?_⟩
    rw [show cutV (fs.map V.str) none (some 2) = (fs.take 2).map V.str from cutV_strs fs 2]
    have ssn : (fs.take 2).Nodup := List.Nodup.sublist (List.take_sublist _ _) hcn
    have ssm : ∀ x ∈ fs.take 2, Nm x ∧ x ∉ ns := fun x hx => hcm x (List.mem_of_mem_take hx)
    have ssl : (fs.take 2).length ≤ 2 := by rw [List.length_take]; omega
    have ssp : 0 < (fs.take 2).length := by rw [List.length_take]; omega
    generalize fs.take 2 = ss at ssn ssm ssl ssp
    generalize hE5 : upd H4 a _ = H5
    have wa := new_at hE5
    have s5 := s4.trans (new_same hE5 na)
    have wl := s5 _ _ w2
    have npa : p ≠ a := (B2.same s4).ne na
    have nla : l ≠ a := ne_some (s4 _ _ w2) na
    -- loose
    refine ⟨_, rfl, ?_⟩
    refine take_of (z := 4) (B2.same s5) (by decide) (by decide) (by omega) fun r6 H6 a6 b6 B6 k6 => ?_
    have kB := (kA.same s5).trans k6
    have wl6 := k6 _ _ wl npl
    have wa6 := k6 _ _ wa npa.symm
    refine ⟨rfl, fun d nd => ?_⟩
    generalize decide (V.int r6 = V.int 0) = loose
    generalize hE7 : upd H6 d _ = H7
    have wd := new_at hE7
    have s7 := new_same hE7 nd
    have npd := B6.ne nd
    have nld : l ≠ d := ne_some wl6 nd
    have nad : a ≠ d := ne_some wa6 nd
    have ndH : H d = none := kB.free nd npd.symm
    -- for word in named
    refine ⟨_, rfl, l, rfl, ⟨_, SqL.of (s7 _ _ wl6)⟩, for_list (xs := ns.map V.str) (fun i σ H' => Bag (n + 300 + 100 * i) H' p ∧ Kp p H H' ∧ ∃ (us : List (Str × UF)) (kvs : List (Key × V)) (y6 y7 y8 y9 y10 y11 y12 y13 y14 y15 y16 : Option V), us.map (·.1) = ns.take i ∧ (∀ q ∈ us, UOk ns ss q.1 q.2) ∧ FactsAt H' kvs us ∧ H' d = some (.dK kvs) ∧ H' l = some (.lst (ns.map V.str)) ∧ H' a = some (.lst (ss.map V.str)) ∧
        σ = [some (.ref p), some (.int k), some (.ref l), some (.ref a), some (.bl loose), some (.ref d), y6, y7, y8, y9, y10, y11, y12, y13, y14, y15, y16])
      ⟨(B6.same s7).le (by omega), kB.same s7, [], [], none, none, none, none, none, none, none, none, none, none, none, rfl, (fun q hq => nomatch hq), .nil, wd, s7 _ _ wl6, s7 _ _ wa6, rfl⟩ ?_ ?_ ?_⟩
    · rintro i σ H' hi ⟨B8, k8, us, kvs, y6, y7, y8, y9, y10, y11, y12, y13, y14, y15, y16, hus, huo, hfa, wd8, wl8, wa8, rfl⟩
      exact SqL.of wl8
    · rintro i x σ H8 hi ⟨B8, k8, us, kvs, y6, y7, y8, y9, y10, y11, y12, y13, y14, y15, y16, hus, huo, hfa, wd8, wl8, wa8, rfl⟩
      obtain ⟨word, hword, rfl⟩ := map_str_get hi
      have hil : i < ns.length := by
        rw [List.getElem?_eq_some_iff] at hword
        exact hword.1
      have hwn : word ∈ ns := List.mem_of_getElem? hword
      -- pool
      refine ⟨_, rfl, l, rfl, ⟨_, SqL.of wl8⟩, fun D nD => ?_⟩
      refine lc_list (xs := ns.map V.str) (fun j H' => Same H8 H' ∧ H' D = some (.lst (((ns.take j).filter fun x => decide (x ≠ word)).map V.str))) ⟨same_upd nD, upd_same⟩ (fun j H' hj h => SqL.of (h.1 _ _ wl8)) ?_ ?_
      · rintro j x H9 hj ⟨s9, w9⟩
        obtain ⟨one, hone, rfl⟩ := map_str_get hj
        refine ⟨rfl, ?_⟩
        rw [take_filter_snoc _ hone]
        refine ⟨_, rfl, _, rfl, rfl, _, rfl, ?_⟩
        by_cases he : one = word
        · subst he
          rw [decide_eq_true (show V.str one = V.str one from rfl)]
          refine iteF ⟨s9, ?_⟩
          rw [if_neg (by rw [decide_eq_false (fun z => z rfl)]; exact Bool.false_ne_true), List.append_nil]
          exact w9
        · rw [decide_eq_false (fun z : V.str one = V.str word => he (by injection z))]
          refine iteT ⟨_, rfl, _, w9, ?_, Same.own (q := D) (H1 := H9) s9 (mut_keep rfl) nD, ?_⟩
          · rw [List.length_map]
            refine Nat.lt_of_le_of_lt (List.length_filter_le _ _) (Nat.lt_of_le_of_lt (List.length_take_le' ..) (small1000 ?_))
            omega
          · rw [upd_same, if_pos (decide_eq_true he), List.map_append]
            rfl
      rintro H9 ⟨s9, wp9⟩
      rw [List.length_map, List.take_length] at wp9
      have mixed := fun zs => mix_ok (zs := zs) hnd ssn hnm ssm (by omega) ssl hwn
      have plen : (ns.filter fun x => decide (x ≠ word)).length ≤ 20 := Nat.le_trans (List.length_filter_le _ _) (by omega)
      generalize hpool : (ns.filter fun x => decide (x ≠ word)) = pool at mixed wp9 plen
      have B9 := B8.same s9
      have npD : p ≠ D := B8.ne nD
      have wa9 := s9 _ _ wa8
      have wl9 := s9 _ _ wl8
      have wd9 := s9 _ _ wd8
      have fa9 := hfa.same s9
      -- wide
      refine ⟨by show 5 ≤ sizeLine; decide, fun l1 n1 => ⟨_, rfl, ?_⟩⟩
      refine pick_menu [V.int (0 : Nat), V.int (1 : Nat), V.int (1 : Nat), V.int (2 : Nat), V.int (4 : Nat)] B9 (by omega) n1 rfl (by decide) (by decide) fun wide H10 hwide B10 k10 => ?_
      obtain ⟨wd10, rfl, hwd⟩ : ∃ j : Nat, wide = .int j ∧ j ≤ 4 := by
        simp only [List.mem_cons, List.not_mem_nil, or_false] at hwide
        rcases hwide with rfl | rfl | rfl | rfl | rfl
        · exact ⟨0, rfl, by decide⟩
        · exact ⟨1, rfl, by decide⟩
        · exact ⟨1, rfl, by decide⟩
        · exact ⟨2, rfl, by decide⟩
        · exact ⟨4, rfl, by decide⟩
      -- musts
      refine ⟨_, rfl, _, rfl, _, rfl, _, rfl, ?_⟩
      refine take_of (z := 12) B10 (by decide) (by decide) (by omega) fun r11 H11 a11 b11 B11 k11 => ?_
      have kk11 := k10.trans k11
      refine ⟨rfl, .inr ⟨_, rfl, _, rfl, a, _, rfl, SqL.of (kk11 _ _ wa9 npa.symm), fun c1 n12 => ?_⟩⟩
      obtain ⟨m1, hm1⟩ := cutV_bit ss (decide (V.int r11 = V.int 0))
      rw [hm1]
      generalize hE12 : upd H11 c1 _ = H12
      have wc12 := new_at hE12
      have s12 := new_same hE12 n12
      have kk12 := kk11.same s12
      refine ⟨D, c1, _, _, rfl, rfl, kk12 _ _ wp9 npD.symm, wc12, by rw [List.length_map, List.length_map, List.length_take]; exact Nat.le_of_lt (small1000 (by omega)), fun c2 n13 => ?_⟩
      rw [← List.map_append]
      generalize hE13 : upd H12 c2 _ = H13
      have wc13 := new_at hE13
      have kk13 := kk12.same (new_same hE13 n13)
      have B13 := (B11.same s12).same (new_same hE13 n13)
      obtain ⟨x1, x2, x3, x4⟩ := mixed (ss.take m1) (List.take_sublist _ _)
      refine ⟨_, rfl, p, c2, wd10, _, _, rfl, B13, by omega, by omega, SqL.of wc13, ((B11.same s12).ne n13).symm, x1, x2, x3, fun musts t1 H14 u1 u2 u3 nt1 wt1 B14 k14 => ?_⟩
      have kk14 := kk13.trans k14
      have npt1 : t1 ≠ p := fun e => by
        rw [e] at wt1
        exact B14.notTup _ wt1
      have hmusts : ∀ x ∈ musts, (x ∈ ns ∨ x ∈ ss) ∧ x ≠ word := fun x hx => x4 x (u2 x hx)
      -- likes
      refine ⟨_, rfl, _, rfl, _, rfl, _, rfl, ?_⟩
      refine take_of (z := 3) B14 (by decide) (by decide) (by omega) fun r15 H15 a15 b15 B15 k15 => ?_
      have kk15 := kk14.trans k15
      refine ⟨rfl, .inr ⟨_, rfl, _, rfl, a, _, rfl, SqL.of (kk15 _ _ wa9 npa.symm), fun c3 n16 => ?_⟩⟩
      obtain ⟨m2, hm2⟩ := cutV_bit ss (decide (V.int r15 = V.int 0))
      rw [hm2]
      generalize hE16 : upd H15 c3 _ = H16
      have wc16 := new_at hE16
      have s16 := new_same hE16 n16
      have kk16 := kk15.same s16
      refine ⟨D, c3, _, _, rfl, rfl, kk16 _ _ wp9 npD.symm, wc16, by rw [List.length_map, List.length_map, List.length_take]; exact Nat.le_of_lt (small1000 (by omega)), fun c4 n17 => ?_⟩
      rw [← List.map_append]
      generalize hE17 : upd H16 c4 _ = H17
      have wc17 := new_at hE17
      have s17 := new_same hE17 n17
      have kk17 := kk16.same s17
      have B17 := (B15.same s16).same s17
      have np4 : p ≠ c4 := (B15.same s16).ne n17
      obtain ⟨x5, x6, x7, x8⟩ := mixed (ss.take m2) (List.take_sublist _ _)
      refine ⟨by show 3 ≤ sizeLine; decide, fun l2 n2 => ⟨_, rfl, ?_⟩⟩
      refine pick_menu [V.int (1 : Nat), V.int (3 : Nat), V.int (8 : Nat)] B17 (by omega) n2 rfl (by decide) (by decide) fun wide2 H18 hwide2 B18 k18 => ?_
      obtain ⟨wd18, rfl, hwd18⟩ : ∃ j : Nat, wide2 = .int j ∧ j ≤ 8 := by
        simp only [List.mem_cons, List.not_mem_nil, or_false] at hwide2
        rcases hwide2 with rfl | rfl | rfl
        · exact ⟨1, rfl, by decide⟩
        · exact ⟨3, rfl, by decide⟩
        · exact ⟨8, rfl, by decide⟩
      refine ⟨p, c4, wd18, _, _, rfl, B18, by omega, by omega, SqL.of (k18 _ _ wc17 np4.symm), np4.symm, x5, x6, x7, fun likes t2 H19 u4 u5 u6 nt2 wt2 B19 k19 => ?_⟩
      have kk19 := (kk17.trans k18).trans k19
      have kl19 : Kp p H14 H19 := (((k15.same s16).same s17).trans k18).trans k19
      have npt2 : t2 ≠ p := fun e => by
        rw [e] at wt2
        exact B19.notTup _ wt2
      have hlikes : ∀ x ∈ likes, (x ∈ ns ∨ x ∈ ss) ∧ x ≠ word := fun x hx => x8 x (u5 x hx)
      have wt1b := kl19 _ _ wt1 npt1
      -- foes
      refine ⟨_, rfl, _, rfl, _, rfl, _, rfl, a, _, rfl, SqL.of (kk19 _ _ wa9 npa.symm), fun c5 n20 => ?_⟩
      rw [show cutV (ss.map V.str) none (some 1) = (ss.take 1).map V.str from cutV_strs ss 1]
      generalize hE20 : upd H19 c5 _ = H20
      have wc20 := new_at hE20
      have s20 := new_same hE20 n20
      have kk20 := kk19.same s20
      refine ⟨D, c5, _, _, rfl, rfl, kk20 _ _ wp9 npD.symm, wc20, by rw [List.length_map, List.length_map, List.length_take]; exact Nat.le_of_lt (small1000 (by omega)), fun c6 n21 => ?_⟩
      rw [← List.map_append]
      generalize hE21 : upd H20 c6 _ = H21
      have wc21 := new_at hE21
      have s21 := new_same hE21 n21
      have B21 := (B19.same s20).same s21
      have np6 : p ≠ c6 := (B19.same s20).ne n21
      obtain ⟨x9, x10, x11, x12⟩ := mixed (ss.take 1) (List.take_sublist _ _)
      refine ⟨by show 4 ≤ sizeLine; decide, fun l3 n3 => ⟨_, rfl, ?_⟩⟩
      refine pick_menu [V.int (0 : Nat), V.int (0 : Nat), V.int (1 : Nat), V.int (2 : Nat)] B21 (by omega) n3 rfl (by decide) (by decide) fun wide3 H22 hwide3 B22 k22 => ?_
      obtain ⟨wd22, rfl, hwd22⟩ : ∃ j : Nat, wide3 = .int j ∧ j ≤ 2 := by
        simp only [List.mem_cons, List.not_mem_nil, or_false] at hwide3
        rcases hwide3 with rfl | rfl | rfl | rfl
        · exact ⟨0, rfl, by decide⟩
        · exact ⟨0, rfl, by decide⟩
        · exact ⟨1, rfl, by decide⟩
        · exact ⟨2, rfl, by decide⟩
      obtain ⟨wd23, e23, hwd23⟩ : ∃ j : Nat, ((wd22 : Nat) : Int) * (if (!loose) = true then 1 else 0) = (j : Int) ∧ j ≤ 2 := by
        cases loose
        · exact ⟨wd22, Int.mul_one _, hwd22⟩
        · exact ⟨0, Int.mul_zero _, by decide⟩
      refine ⟨_, rfl, _, rfl, .inr ⟨_, rfl, _, _, rfl, rfl, cmul_b, ?_⟩⟩
      refine ⟨p, c6, wd23, _, _, (by show [V.ref p, V.ref c6, V.int _] = _; rw [e23]), B22, by omega, by omega, SqL.of (k22 _ _ wc21 np6.symm), np6.symm, x9, x10, x11, fun foes t3 H24 u7 u8 u9 nt3 wt3 B24 k24 => ?_⟩
      have kl24 : Kp p H19 H24 := (((Kp.of s20).same s21).trans k22).trans k24
      have kk24 := kk19.trans kl24
      have npt3 : t3 ≠ p := fun e => by
        rw [e] at wt3
        exact B24.notTup _ wt3
      have hfoes : ∀ x ∈ foes, (x ∈ ns ∨ x ∈ ss) ∧ x ≠ word := fun x hx => x12 x (u8 x hx)
      have wt1c := kl24 _ _ wt1b npt1
      have wt2c := kl24 _ _ wt2 npt2
      -- elders
      refine ⟨_, rfl, _, rfl, _, rfl, D, a, _, _, rfl, rfl, kk24 _ _ wp9 npD.symm, kk24 _ _ wa9 npa.symm, by rw [List.length_map, List.length_map]; exact Nat.le_of_lt (small1000 (by omega)), fun c7 n25 => ?_⟩
      rw [← List.map_append]
      generalize hE25 : upd H24 c7 _ = H25
      have wc25 := new_at hE25
      have s25 := new_same hE25 n25
      have np7 : p ≠ c7 := B24.ne n25
      obtain ⟨x13, x14, x15, x16⟩ := mixed ss (List.Sublist.refl _)
      refine ⟨by show 4 ≤ sizeLine; decide, fun l4 n4 => ⟨_, rfl, ?_⟩⟩
      refine pick_menu [V.int (0 : Nat), V.int (1 : Nat), V.int (2 : Nat), V.int (8 : Nat)] (B24.same s25) (by omega) n4 rfl (by decide) (by decide) fun wide4 H26 hwide4 B26 k26 => ?_
      obtain ⟨wd26, rfl, hwd26⟩ : ∃ j : Nat, wide4 = .int j ∧ j ≤ 8 := by
        simp only [List.mem_cons, List.not_mem_nil, or_false] at hwide4
        rcases hwide4 with rfl | rfl | rfl | rfl
        · exact ⟨0, rfl, by decide⟩
        · exact ⟨1, rfl, by decide⟩
        · exact ⟨2, rfl, by decide⟩
        · exact ⟨8, rfl, by decide⟩
      refine ⟨p, c7, wd26, _, _, rfl, B26, by omega, by omega, SqL.of (k26 _ _ wc25 np7.symm), np7.symm, x13, x14, x15, fun elders t4 H27 u10 u11 u12 nt4 wt4 B27 k27 => ?_⟩
      have kl27 : Kp p H24 H27 := ((Kp.of s25).trans k26).trans k27
      have kk27 := kk24.trans kl27
      have npt4 : t4 ≠ p := fun e => by
        rw [e] at wt4
        exact B27.notTup _ wt4
      have helders : ∀ x ∈ elders, (x ∈ ns ∨ x ∈ ss) ∧ x ≠ word := fun x hx => x16 x (u11 x hx)
      have wt1d := kl27 _ _ wt1c npt1
      have wt2d := kl27 _ _ wt2c npt2
      have wt3d := kl27 _ _ wt3 npt3
      -- sort
      refine ⟨by show 5 ≤ sizeLine; decide, fun l5 n5 => ⟨_, rfl, ?_⟩⟩
      refine pick_menu [V.str (Str.ofString "work"), V.str (Str.ofString "work"), V.str (Str.ofString "work"), V.str (Str.ofString "goal"), V.str (Str.ofString "door")] B27 (by omega) n5 rfl (by decide) (by decide) fun sortV H28 hsort B28 k28 => ?_
      obtain ⟨sort, rfl, hsort'⟩ : ∃ z : Str, sortV = .str z ∧ (z = Str.ofString "work" ∨ z = Str.ofString "goal" ∨ z = Str.ofString "door") := by
        simp only [List.mem_cons, List.not_mem_nil, or_false] at hsort
        rcases hsort with rfl | rfl | rfl | rfl | rfl
        · exact ⟨_, rfl, .inl rfl⟩
        · exact ⟨_, rfl, .inl rfl⟩
        · exact ⟨_, rfl, .inl rfl⟩
        · exact ⟨_, rfl, .inr (.inl rfl)⟩
        · exact ⟨_, rfl, .inr (.inr rfl)⟩
      have kk28 := kk27.trans k28
      have kl28 := k28
      -- goal
      refine ⟨fun v H' => Bag (n + 300 + 100 * i + 61) H' p ∧ Kp p H28 H' ∧ ∃ g : Option Str, v = optV g ∧ (∀ x ∈ g.toList, (x ∈ ns ∨ x ∈ ss) ∧ x ≠ word) ∧ (sort = Str.ofString "door" → g ≠ none) ∧ (sort ≠ Str.ofString "door" → g = none), ?_, ?_⟩
      · refine ⟨_, rfl, rfl, _, rfl, ?_⟩
        by_cases hdoor : sort = Str.ofString "door"
        · subst hdoor
          refine iteYd rfl ?_
          have wp28 := kk28 _ _ wp9 npD.symm
          refine ⟨_, rfl, _, rfl, D, a, _, _, rfl, rfl, wp28, kk28 _ _ wa9 npa.symm, by rw [List.length_map, List.length_map]; exact Nat.le_of_lt (small1000 (by omega)), fun c8 n29 => ?_⟩
          rw [← List.map_append]
          generalize hE29 : upd H28 c8 _ = H29
          have wc29 := new_at hE29
          have s29 := new_same hE29 n29
          have np8 : p ≠ c8 := B28.ne n29
          refine ⟨_, rfl, _, rfl, D, _, rfl, .inl (SqL.of (s29 _ _ wp28)), _, _, rfl, rfl, ?_⟩
          refine take_of (z := ((pool.map V.str).length : Int) + 1) (B28.same s29) (by omega) (by rw [List.length_map]; omega) (by omega) fun r30 H30 a30 b30 B30 k30 => ?_
          rw [List.length_map] at b30
          obtain ⟨z, hz, ez⟩ := menu_str (zs := pool ++ ss) a30 (by rw [List.length_append]; omega)
          exact ⟨c8, _, _, _, rfl, rfl, SqL.of (k30 _ _ wc29 np8.symm), ez, B30.le (by omega), (Kp.of s29).trans k30, some z, rfl, (fun x hx => by cases List.mem_singleton.mp hx; exact x16 _ hz), (fun _ e => nomatch e), (fun z => absurd rfl z)⟩
        · refine iteNd (fun z => hdoor (by injection z)) ?_
          exact ⟨B28.le (by omega), Kp.refl _ _, none, rfl, (fun x hx => nomatch hx), (fun z => absurd z hdoor), (fun _ => rfl)⟩
      rintro vg H29 ⟨B29, k29, goal, rfl, hgoal, hg1, hg2⟩
      have kl29 := kl28.trans k29
      -- five
      refine ⟨fun v H' => Bag (n + 300 + 100 * i + 80) H' p ∧ Kp p H29 H' ∧ ∃ o, FiveAt H' v o, ?_, ?_⟩
      · refine ⟨_, rfl, ?_⟩
        refine take_of (z := 3) B29 (by decide) (by decide) (by omega) fun r30 H30 a30 b30 B30 k30 => ?_
        refine ⟨_, _, rfl, rfl, _, rfl, ?_⟩
        refine ite2 (fun _ => ?_) (fun _ => ?_)
        · exact ⟨_, rfl, p, _, rfl, B30, by omega, fun f m t b s v H' F nv wv B' k' => ⟨B'.le (by omega), k30.trans k', some (f, m, t, b, s), v, rfl, wv, F⟩⟩
        · exact ⟨B30.le (by omega), k30, none, rfl⟩
      rintro vf H30 ⟨B30, k30, five, hfive⟩
      have kl30 := kl29.trans k30
      have kk30 := (kk28.trans k29).trans k30
      -- found[word] = (...)
      refine ⟨_, rfl, _, rfl, _, rfl, _, rfl, _, rfl, _, rfl, _, rfl, by show 7 ≤ sizeLine; decide, fun tt ntt => ?_⟩
      generalize hE31 : upd H30 tt _ = H31
      have wt31 := new_at hE31
      have s31 := new_same hE31 ntt
      have wd31 := s31 _ _ (kk30 _ _ wd9 npd.symm)
      have fa31 := (fa9.keep kk30 B9.notTup).same s31
      have hfree : word ∉ us.map (·.1) := by
        rw [hus]
        intro hm
        obtain ⟨j, hj, e⟩ := List.getElem_of_mem hm
        rw [List.length_take] at hj
        rw [List.getElem_take] at e
        have hji : j = i := by
          have h1 : ns[i]? = some word := hword
          have h2 : ns[j]? = some word := by rw [List.getElem?_eq_getElem (by omega), e]
          exact (List.getElem?_inj (by omega) hnd).mp (h2.trans h1.symm)
        omega
      have hul : kvs.length ≤ 20 := by
        have h1 := hfa.len
        have h2 := congrArg List.length hus
        rw [List.length_map, List.length_take] at h2
        omega
      refine ⟨_, rfl, _, rfl, d, _, rfl, DPut.k (k := Sum.inr word) wd31 (small1000 (by omega)), ?_⟩
      rw [putK_new _ (hfa.free hfree)]
      generalize hE32 : upd H31 d _ = H32
      have wd32 := new_at hE32
      have m32 := mut_keep hE32
      have nt32 := NotTup.dK wd31
      refine ⟨((B30.same s31).keep m32 npd).le (by omega), (((k8.same s9).trans kk30).same s31).own m32 ndH, us ++ [(word, ⟨sort, musts, likes, foes, elders, goal, five⟩)], _, _, _, _, _, _, _, _, _, _, _, _, ?_, ?_, .snoc (fa31.keep m32 nt32) ?_, wd32, m32 _ _ (s31 _ _ (kk30 _ _ wl9 npl)) nld, m32 _ _ (s31 _ _ (kk30 _ _ wa9 npa.symm)) nad, rfl⟩
      · rw [List.map_append, hus, List.take_add_one, hword]
        rfl
      · intro q hq
        rcases List.mem_append.mp hq with hq | hq
        · exact huo q hq
        · rw [List.mem_singleton.mp hq]
          refine ⟨hsort', u1, u4, u7, u10, by show musts.length ≤ 8; omega, by show likes.length ≤ 8; omega, by show foes.length ≤ 8; omega, by show elders.length ≤ 8; omega, fun x hx => ?_, hg1, hg2⟩
          rcases List.mem_append.mp hx with hx | hx
          · rcases List.mem_append.mp hx with hx | hx
            · rcases List.mem_append.mp hx with hx | hx
              · rcases List.mem_append.mp hx with hx | hx
                · exact hmusts x hx
                · exact hlikes x hx
              · exact hfoes x hx
            · exact helders x hx
          · exact hgoal x hx
      · refine FactAt.keep (FactAt.same (H := H31) ?_ (Same.refl _)) m32 nt32
        exact ⟨tt, t1, t2, t3, t4, vf, rfl, wt31, s31 _ _ (kl30 _ _ wt1d npt1), s31 _ _ (kl30 _ _ wt2d npt2), s31 _ _ (kl30 _ _ wt3d npt3), s31 _ _ (kl30 _ _ wt4 npt4), hfive.same s31⟩
    · rintro σ H8 ⟨B8, k8, us, kvs, y6, y7, y8, y9, y10, y11, y12, y13, y14, y15, y16, hus, huo, hfa, wd8, wl8, wa8, rfl⟩
      rw [List.length_map] at B8 hus
      rw [List.take_length] at hus
      exact ⟨_, rfl, q ns ss us kvs d H8 hus hnd hnm (by omega) (by omega) ssn ssm ssl huo hfa ndH wd8 (B8.le (by omega)) k8⟩

-- SPLIT
/-! ### a unit -/
abbrev uFs (w k n x b a o r : V) : List (Str × V) := [("name", w), ("kind", k), ("needs", n), ("wants", x), ("bars", b), ("after", a), ("opens", o), ("rule", r)]
def sp_Unit_init (K : PySem.W.Frag) : Sp := fun vs H Q _ => ∃ (p dx : Addr) (v1 v2 v3 v4 v5 v6 v7 v8 : V), vs = [.ref p, v1, v2, v3, v4, v5, v6, v7, v8] ∧ H p = some (.ins (He.ga K "Unit") dx []) ∧
  ∀ H', H' p = some (.ins (He.ga K "Unit") dx (uFs v1 v2 v3 v4 v5 v6 v7 v8)) → Kp p H H' → Q .non H'
theorem ok_Unit_init (T : Txt K mg) : FnOk P w K mg base CX0 1 (He.fAd K ("Unit", some "__init__")) T.d_Unit_init ["self", "name", "kind", "needs", "wants", "bars", "after", "opens", "rule"] (sp_Unit_init K) := by
  refine T.F_Unit_init.ok sc_Unit_init (fun vs H Q E h => ?_) (fun cdv A outer s H vs Q E hr h => ?_)
  · obtain ⟨p, dx, v1, v2, v3, v4, v5, v6, v7, v8, rfl, _⟩ := h
    rfl
  · obtain ⟨p, dx, v1, v2, v3, v4, v5, v6, v7, v8, rfl, hp, q⟩ := h
    refine ⟨_, PSs.nox (pss_cons (ps_fld (pv 0) (pv 1) rfl)
      (pss_cons (ps_fld (pv 0) (pv 2) rfl)
      (pss_cons (ps_fld (pv 0) (pv 3) rfl)
      (pss_cons (ps_fld (pv 0) (pv 4) rfl)
      (pss_cons (ps_fld (pv 0) (pv 5) rfl)
      (pss_cons (ps_fld (pv 0) (pv 6) rfl)
      (pss_cons (ps_fld (pv 0) (pv 7) rfl)
      (pss_one (ps_fld (pv 0) (pv 8) rfl))))))))), ?_⟩
    refine ⟨_, rfl, _, rfl, p, _, dx, [], rfl, hp, T.cl_Unit, T.na_Unit_name, (by show 0 < 1000; decide), ?_⟩
    refine ⟨_, rfl, _, rfl, p, _, dx, _, rfl, upd_same, T.cl_Unit, T.na_Unit_kind, (by show 1 < 1000; decide), ?_⟩
    refine ⟨_, rfl, _, rfl, p, _, dx, _, rfl, upd_same, T.cl_Unit, T.na_Unit_needs, (by show 2 < 1000; decide), ?_⟩
    refine ⟨_, rfl, _, rfl, p, _, dx, _, rfl, upd_same, T.cl_Unit, T.na_Unit_wants, (by show 3 < 1000; decide), ?_⟩
    refine ⟨_, rfl, _, rfl, p, _, dx, _, rfl, upd_same, T.cl_Unit, T.na_Unit_bars, (by show 4 < 1000; decide), ?_⟩
    refine ⟨_, rfl, _, rfl, p, _, dx, _, rfl, upd_same, T.cl_Unit, T.na_Unit_after, (by show 5 < 1000; decide), ?_⟩
    refine ⟨_, rfl, _, rfl, p, _, dx, _, rfl, upd_same, T.cl_Unit, T.na_Unit_opens, (by show 6 < 1000; decide), ?_⟩
    refine ⟨_, rfl, _, rfl, p, _, dx, _, rfl, upd_same, T.cl_Unit, T.na_Unit_rule, (by show 7 < 1000; decide), ?_⟩
    refine q _ upd_same fun c o h n => ?_
    rw [upd_ne n, upd_ne n, upd_ne n, upd_ne n, upd_ne n, upd_ne n, upd_ne n, upd_ne n]
    exact h
/-- the rule of a unit, or None -/
def RuleOpt (K : PySem.W.Frag) (H : Hp) : V → Option (Int × Int × Int × Int × Int) → Prop
  | v, none => v = .non
  | v, some (f, m, t, b, s) => ∃ r, v = .ref r ∧ RuleAt K H r f m t b s
theorem RuleOpt.same {H H' : Hp} {v : V} {o : Option (Int × Int × Int × Int × Int)} (h : RuleOpt K H v o) (s : Same H H') : RuleOpt K H' v o := by
  cases o with
  | none => exact h
  | some o =>
    obtain ⟨f, m, t, b, s'⟩ := o
    obtain ⟨p, e, hp⟩ := h
    exact ⟨p, e, hp.same s⟩
theorem RuleOpt.keep {H H' : Hp} {v : V} {o : Option (Int × Int × Int × Int × Int)} {q : Addr} (h : RuleOpt K H v o) (k : Kp q H H') (n : ∀ C dx fs, H q ≠ some (.ins C dx fs)) : RuleOpt K H' v o := by
  cases o with
  | none => exact h
  | some o =>
    obtain ⟨f, m, t, b, s'⟩ := o
    obtain ⟨p, e, dx, hp⟩ := h
    exact ⟨p, e, dx, k _ _ hp fun z => n _ _ _ (z ▸ hp)⟩
/-- a unit stands at a -/
def UnitAt (K : PySem.W.Frag) (H : Hp) (p : Addr) (w : Str) (u : UF) : Prop := ∃ (dx n x b a : Addr) (r : V), H p = some (.ins (He.ga K "Unit") dx (uFs (.str w) (.str u.kind) (.ref n) (.ref x) (.ref b) (.ref a) (optV u.opens) r)) ∧
  SqT K H n (u.needs.map V.str) ∧ SqT K H x (u.wants.map V.str) ∧ SqT K H b (u.bars.map V.str) ∧ SqT K H a (u.after.map V.str) ∧ RuleOpt K H r u.five
/-- the seven facts, whatever way their tuples stand -/
def FactS (K : PySem.W.Frag) (H : Hp) (v : V) (u : UF) : Prop := ∃ (t n x b a : Addr) (g : V), v = .ref t ∧ SqT K H t [.str u.kind, .ref n, .ref x, .ref b, .ref a, optV u.opens, g] ∧
  SqT K H n (u.needs.map V.str) ∧ SqT K H x (u.wants.map V.str) ∧ SqT K H b (u.bars.map V.str) ∧ SqT K H a (u.after.map V.str) ∧ FiveAt H g u.five
theorem FactAt.s {H : Hp} {v : V} {u : UF} (h : FactAt H v u) : FactS K H v u := by
  obtain ⟨t, n, x, b, a, g, e, h0, h1, h2, h3, h4, h5⟩ := h
  exact ⟨t, n, x, b, a, g, e, .of h0, .of h1, .of h2, .of h3, .of h4, h5⟩
def sp_law_unit (K : PySem.W.Frag) : Sp := fun vs H Q _ => ∃ (w : Str) (d : Addr) (v : V) (u : UF), vs = [.str w, .ref d] ∧ DGet H d (.str w) (some v) ∧ FactS K H v u ∧
  ∀ p H', H p = none → Same H H' → UnitAt K H' p w u → Q (.ref p) H'
theorem ok_law_unit (T : Txt K mg) : FnOk P w K mg base CX0 4 (He.fAd K ("_law_unit", none)) T.d_law_unit ["_law_word", "_law_facts_here"] (sp_law_unit K) := by
  refine T.F_law_unit.ok sc_law_unit (fun vs H Q E h => ?_) (fun cdv A outer s H vs Q E hr h => ?_)
  · obtain ⟨w, d, v, u, rfl, _⟩ := h
    rfl
  · obtain ⟨w, d, v, u, rfl, hd, hF, q⟩ := h
    refine ⟨_, PSs.nox (pss_cons (ps_asg (pe_dget (hu_of hr) (pv 1) (pv 0) (fun _ _ => rfl)) (pg_tup rfl (pgs_cons (pg_name (i := 2) sc_law_unit.nd rfl (Or.inl rfl)) (pgs_cons (pg_name (i := 3) sc_law_unit.nd rfl (Or.inl rfl)) (pgs_cons (pg_name (i := 4) sc_law_unit.nd rfl (Or.inl rfl)) (pgs_cons (pg_name (i := 5) sc_law_unit.nd rfl (Or.inl rfl)) (pgs_cons (pg_name (i := 6) sc_law_unit.nd rfl (Or.inl rfl)) (pgs_cons (pg_name (i := 7) sc_law_unit.nd rfl (Or.inl rfl)) (pgs_cons (pg_name (i := 8) sc_law_unit.nd rfl (Or.inl rfl)) pgs_nil)))))))))
      (pss_cons (ps_set (i := 9) sc_law_unit.nd rfl (Or.inl rfl) (pe_mid (pe_ifExp (pt_cmpR op_isN (pv 8) pe_non (nomark _)) pe_non (pe_call (ok_law_rule T) (hr.mono (by decide)) (by rfl) T.m_law_rule T.F_law_rule.kp T.b_law_rule .nil pass0 (pa_cons (pv 8) pa_nil)))))
      (pss_one (ps_ret (pe_makeK T.mk_Unit (ok_Unit_init T) (hr.mono (by decide)) (by rfl) T.m_Unit T.kb_Unit_init_2_kind_needs_wants_bars_after_opens_rule.choose_spec pass0 (pa_cons (pv 0) pa_nil) (pk_cons (pv 2) (pk_cons (pv 3) (pk_cons (pv 4) (pk_cons (pv 5) (pk_cons (pv 6) (pk_cons (pv 7) (pk_cons (pv 9) pk_nil)))))))))))), ?_⟩
    obtain ⟨t, n, x, b, a, g, rfl, wt, wn, wx, wb, wa, hg⟩ := hF
    refine ⟨_, rfl, _, rfl, d, _, rfl, hd, t, _, rfl, wt, rfl, _, _, rfl, _, _, rfl, _, _, rfl, _, _, rfl, _, _, rfl, _, _, rfl, _, _, rfl, rfl, ?_⟩
    refine ⟨fun v H' => Same H H' ∧ RuleOpt K H' v u.five, ?_, ?_⟩
    · refine ⟨_, rfl, rfl, _, rfl, ?_⟩
      cases h5 : u.five with
      | none =>
        rw [h5] at hg
        cases (show g = .non from hg)
        exact iteYd rfl ⟨Same.refl _, rfl⟩
      | some o =>
        obtain ⟨f, m, tp, br, sn⟩ := o
        rw [h5] at hg
        obtain ⟨v5, rfl, w5, F⟩ := hg
        refine iteNd (fun z => nomatch z) ⟨_, rfl, v5, f, m, tp, br, sn, rfl, SqT.of w5, fun r H' nr s' hr => ⟨s', r, rfl, hr⟩⟩
    rintro rv H1 ⟨s1, hr⟩
    refine ⟨_, rfl, _, rfl, _, rfl, _, rfl, _, rfl, _, rfl, _, rfl, _, rfl, rfl, rfl, fun p dx np nd ne => ?_⟩
    refine ⟨p, dx, _, _, _, _, _, _, _, _, rfl, upd_same, fun H' wp kp => ⟨rfl, ?_⟩⟩
    have s2 : Same H1 H' := Same.made np nd fun b o e n => kp b o e n
    have s3 := s1.trans s2
    exact q p H' (s1.free np) s3 ⟨dx, n, x, b, a, rv, wp, tup_same s3 wn, tup_same s3 wx, tup_same s3 wb, tup_same s3 wa, RuleOpt.same hr s2⟩
theorem UnitAt.same {H H' : Hp} {p : Addr} {w : Str} {u : UF} (h : UnitAt K H p w u) (s : Same H H') : UnitAt K H' p w u := by
  obtain ⟨dx, n, x, b, a, r, h0, h1, h2, h3, h4, h5⟩ := h
  exact ⟨dx, n, x, b, a, r, s _ _ h0, tup_same s h1, tup_same s h2, tup_same s h3, tup_same s h4, h5.same s⟩
theorem UnitAt.keep {H H' : Hp} {p q : Addr} {w : Str} {u : UF} {n : Nat} (h : UnitAt K H p w u) (k : Kp q H H') (B : Bag n H q) : UnitAt K H' p w u := by
  obtain ⟨_, _, _, hq, _⟩ := B.ex
  have nt := NotTp.lst hq
  obtain ⟨dx, n, x, b, a, r, h0, h1, h2, h3, h4, h5⟩ := h
  exact ⟨dx, n, x, b, a, r, k _ _ h0 (fun e => by rw [e, hq] at h0; cases h0), k.tup nt h1, k.tup nt h2, k.tup nt h3, k.tup nt h4, h5.keep k fun C dx fs e => by rw [hq] at e; cases e⟩

-- SPLIT
/-! ### an equal thing that shares no list -/
/-- what stands in a heap that did not stand in an earlier one -/
def nu (H H' : Hp) : Hp := fun a => if H a = none then H' a else none
theorem nu_same {H H' : Hp} : Same (nu H H') H' := fun a o e => by
  unfold nu at e
  split at e
  · exact e
  · cases e
/-- the same without one address -/
def nuD (D : Addr) (H H' : Hp) : Hp := fun a => if a = D then none else nu H H' a
theorem nuD_same {D : Addr} {H H' : Hp} : Same (nuD D H H') (nu H H') := fun a o e => by
  unfold nuD at e
  split at e
  · cases e
  · exact e
theorem nuD_step {D : Addr} {H H1 H2 : Hp} (s1 : Same H H1) (s2 : Same H1 H2) (o : HO) : Same (nuD D H H1) (nuD D H (upd H2 D o)) := fun a x e => by
  unfold nuD at e ⊢
  split at e
  · cases e
  · rename_i n
    rw [if_neg n]
    unfold nu at e ⊢
    split at e
    · rename_i z
      rw [if_pos z, upd_ne n]
      exact s2 _ _ e
    · cases e
theorem nuD_new {D : Addr} {H H1 H2 : Hp} (s1 : Same H H1) {x : HO} (hD : H1 D = some x) (o : HO) : Same (nu H1 H2) (nuD D H (upd H2 D o)) := fun a y e => by
  unfold nu at e
  split at e
  · rename_i z
    have n : a ≠ D := fun c => by rw [c, hD] at z; cases z
    unfold nuD
    rw [if_neg n]
    unfold nu
    rw [if_pos (s1.free z), upd_ne n]
    exact e
  · cases e
/-- what own_copy hands back for things of some kind -/
def sp_copy (K : PySem.W.Frag) (S : PyData → Prop) : Sp := fun vs H Q _ => ∃ (v : V) (d : PyData), vs = [v] ∧ Dp K H v d ∧ S d ∧ ∀ v' H', Same H H' → Dp K (nu H H') v' d → Q v' H'
/-- flat ones, lists and tuples of some kind -/
inductive Up (S : PyData → Prop) : PyData → Prop
  | flat {d : PyData} {n : Nat} (h : UE.Flat d n) : Up S d
  | lst {ds : List PyData} (h : ∀ d ∈ ds, S d) (few : ds.length ≤ 1000) : Up S (.list ds)
  | tup {ds : List PyData} (h : ∀ d ∈ ds, S d) (few : ds.length ≤ 1000) : Up S (.tuple ds)
mutual
theorem Dp_same {H H' : Hp} (s : Same H H') : ∀ {d : PyData} {v : V}, Dp K H v d → Dp K H' v d
  | _, _, .non => .non
  | _, _, .bl b => .bl b
  | _, _, .int i => .int i
  | _, _, .str x => .str x
  | _, _, .lst h all => .lst (SqL.ext h s) (DpAll_same s all)
  | _, _, .tup h all => .tup (tup_same s h) (DpAll_same s all)
theorem DpAll_same {H H' : Hp} (s : Same H H') : ∀ {ds : List PyData} {vs : List V}, DpAll K H vs ds → DpAll K H' vs ds
  | _, _, .nil => .nil
  | _, _, .cons h t => .cons (Dp_same s h) (DpAll_same s t)
end
theorem dpAll_len {H : Hp} : ∀ {vs : List V} {ds : List PyData}, DpAll K H vs ds → vs.length = ds.length
  | _, _, .nil => rfl
  | _, _, .cons _ t => congrArg (· + 1) (dpAll_len t)
theorem dpAll_get {H : Hp} : ∀ {vs : List V} {ds : List PyData} {i : Nat} {v : V}, DpAll K H vs ds → vs[i]? = some v → ∃ d, ds[i]? = some d ∧ Dp K H v d
  | _, _, _, _, .nil, e => by simp at e
  | _, _, 0, _, .cons h _, e => by cases e; exact ⟨_, rfl, h⟩
  | _, _, i + 1, _, .cons _ t, e => dpAll_get (i := i) t e
theorem dpAll_snoc {H : Hp} : ∀ {vs : List V} {ds : List PyData} {v : V} {d : PyData}, DpAll K H vs ds → Dp K H v d → DpAll K H (vs ++ [v]) (ds ++ [d])
  | _, _, _, _, .nil, h => .cons h .nil
  | _, _, _, _, .cons a t, h => .cons a (dpAll_snoc t h)
/-- of which built-in class a thing is -/
def tyD : PyData → String
  | .none => "NoneType"
  | .bool _ => "bool"
  | .int _ => "int"
  | .str _ => "str"
  | .list _ => "list"
  | .tuple _ => "tuple"
  | .dict _ => "dict"
theorem dp_ty {H : Hp} {v : V} {d : PyData} (h : Dp K H v d) : L2.TyX K H v (.type (tyD d)) := by
  cases h with
  | non => exact .base .non
  | bl b => exact .base (.bl b)
  | int i => exact .base (.int i)
  | str x => exact .base (.str x)
  | lst h _ =>
    rcases h with h | ⟨o, _, _, hk, hc, _⟩
    · rcases h with h | ⟨ob, h⟩
      · exact .base (.lst h)
      · exact .base (.frz h)
    · exact .kList hk hc
  | tup h _ =>
    rcases h with h | ⟨o, _, _, hk, hc, _⟩
    · rcases h with h | ⟨ob, h⟩
      · exact .base (.tup h)
      · exact .fTuple h
    · exact .kTuple hk hc
theorem flat_dp {H H' : Hp} {v : V} {d : PyData} {n : Nat} (fl : UE.Flat d n) (h : Dp K H v d) : Dp K H' v d := by
  cases fl <;> cases h
  · exact .non
  · exact .bl _
  · exact .int _
  · exact .str _
theorem copy_step (T : Txt K mg) {k : Nat} {S : PyData → Prop} (hF : FnOk P w K mg base CX0 k (He.fAd K ("own_copy", none)) T.d_own_copy ["thing"] (sp_copy K S)) : FnOk P w K mg base CX0 (k + 1) (He.fAd K ("own_copy", none)) T.d_own_copy ["thing"] (sp_copy K (Up S)) := by
  refine T.F_own_copy.ok sc_own_copy (fun vs H Q E h => ?_) (fun cdv A outer s H vs Q E hr h => ?_)
  · obtain ⟨v, d, rfl, _⟩ := h
    rfl
  · obtain ⟨v, d, rfl, hd, hS, q⟩ := h
    refine ⟨_, PSs.nox (pss_cons (ps_if (pt_val (pe_callB (id := "isinstance")  call_isi (by rfl) T.n_isinstance (by decide +kernel) (pa_cons (pv 0) (pa_cons (pe_bltn (v := .ty "list") (u := .type "list") (by rfl) T.n_list (by decide +kernel) rfl) pa_nil))))
      (pss_one (ps_ret (pe_lc (own := [("part", 1)]) (by rfl) sc_own_copy.nd (UP.pi_or (pi_list (pv 0)) (pi_tup (pv 0))) (blkOk_by (own := [("part", 1)]) (N := N_own_copy) (sc := defScope s_own_copy) (by decide +kernel)) (fun _ _ _ _ _ => (pg_name (i := 1) sc_own_copy.nd rfl (Or.inl rfl))) (fun _ _ _ _ _ => pts_nil) (fun _ _ _ _ _ => (pe_call hF (hr.mono (Nat.le_refl _)) (by rfl) T.m_own_copy T.F_own_copy.kp T.b_own_copy .nil pass0 (pa_cons (pv 1) pa_nil))))))
      pss_nil)
      (pss_cons (ps_if (pt_val (pe_callB (id := "isinstance")  call_isi (by rfl) T.n_isinstance (by decide +kernel) (pa_cons (pv 0) (pa_cons (pe_bltn (v := .ty "tuple") (u := .type "tuple") (by rfl) T.n_tuple (by decide +kernel) rfl) pa_nil))))
      (pss_one (ps_ret (pe_callTy (T := "tuple")  call_tuple_of (by rfl) T.n_tuple (by decide +kernel) (pa_cons (pe_lc (own := [("part", 1)]) (by rfl) sc_own_copy.nd (UP.pi_or (pi_list (pv 0)) (pi_tup (pv 0))) (blkOk_by (own := [("part", 1)]) (N := N_own_copy) (sc := defScope s_own_copy) (by decide +kernel)) (fun _ _ _ _ _ => (pg_name (i := 1) sc_own_copy.nd rfl (Or.inl rfl))) (fun _ _ _ _ _ => pts_nil) (fun _ _ _ _ _ => (pe_call hF (hr.mono (Nat.le_refl _)) (by rfl) T.m_own_copy T.F_own_copy.kp T.b_own_copy .nil pass0 (pa_cons (pv 1) pa_nil)))) pa_nil))))
      pss_nil)
      (pss_one (ps_ret (pv 0))))), ?_⟩
    cases hS with
    | @flat d n fl =>
      have k1 : PySem.W.kitOne K (.type (tyD d)) (.type "list") = some false := by cases fl <;> exact kit_ty (by dsimp only [tyD]; decide +kernel)
      have k2 : PySem.W.kitOne K (.type (tyD d)) (.type "tuple") = some false := by cases fl <;> exact kit_ty (by dsimp only [tyD]; decide +kernel)
      exact ⟨_, rfl, _, _, _, _, _, rfl, .ty "list", dp_ty hd, k1, _, rfl, iteF ⟨_, rfl, _, _, _, _, _, rfl, .ty "tuple", dp_ty hd, k2, _, rfl, iteF ⟨_, rfl, q _ _ (Same.refl _) (flat_dp fl hd)⟩⟩⟩
    | @lst ds hs few =>
      refine ⟨_, rfl, _, _, _, _, true, rfl, .ty "list", dp_ty hd, kit_ty (by dsimp only [tyD]; decide +kernel), _, rfl, iteT ?_⟩
      cases hd with
      | @lst a xs ds sq all =>
        refine .inl ⟨_, rfl, a, rfl, ⟨_, sq⟩, fun D nD => ?_⟩
        refine lc_list (K := K) (a := a) (xs := xs) (fun i H' => Same H H' ∧ ∃ ys, H' D = some (.lst ys) ∧ DpAll K (nuD D H H') ys (ds.take i)) ⟨same_upd nD, [], upd_same, .nil⟩ (fun i H' _ h => SqL.ext sq h.1) ?_ ?_
        · rintro i x H1 hi ⟨s1, ys, w1, all1⟩
          obtain ⟨e, he, hx⟩ := dpAll_get all hi
          refine ⟨rfl, _, rfl, x, e, rfl, Dp_same s1 hx, hs e (List.mem_of_getElem? he), fun v' H2 s2 hv => ⟨ys, s2 _ _ w1, ?_, ?_⟩⟩
          · have l1 := dpAll_len all1
            rw [List.length_take] at l1
            exact small1000 (by omega)
          · refine ⟨Same.own (q := D) (H1 := H2) (s1.trans s2) (mut_keep rfl) nD, ys ++ [v'], upd_same, ?_⟩
            rw [take_snoc he]
            exact dpAll_snoc (DpAll_same (nuD_step s1 s2 _) all1) (Dp_same (nuD_new s1 w1 _) hv)
        · rintro H1 ⟨s1, ys, w1, all1⟩
          rw [dpAll_len all, List.take_length] at all1
          exact q (.ref D) H1 s1 (.lst (SqL.of (by unfold nu; rw [if_pos nD]; exact w1)) (DpAll_same nuD_same all1))
    | @tup ds hs few =>
      refine ⟨_, rfl, _, _, _, _, false, rfl, .ty "list", dp_ty hd, kit_ty (by dsimp only [tyD]; decide +kernel), _, rfl, iteF ?_⟩
      refine ⟨_, rfl, _, _, _, _, true, rfl, .ty "tuple", dp_ty hd, kit_ty (by dsimp only [tyD]; decide +kernel), _, rfl, iteT ?_⟩
      cases hd with
      | @tup a xs ds sq all =>
        refine .inr ⟨_, rfl, a, rfl, ⟨_, sq⟩, fun D nD => ?_⟩
        refine lc_tup (K := K) (a := a) (xs := xs) (fun i H' => Same H H' ∧ ∃ ys, H' D = some (.lst ys) ∧ DpAll K (nuD D H H') ys (ds.take i)) ⟨same_upd nD, [], upd_same, .nil⟩ (fun i H' _ h => tup_same h.1 sq) ?_ ?_
        · rintro i x H1 hi ⟨s1, ys, w1, all1⟩
          obtain ⟨e, he, hx⟩ := dpAll_get all hi
          refine ⟨rfl, _, rfl, x, e, rfl, Dp_same s1 hx, hs e (List.mem_of_getElem? he), fun v' H2 s2 hv => ⟨ys, s2 _ _ w1, ?_, ?_⟩⟩
          · have l1 := dpAll_len all1
            rw [List.length_take] at l1
            exact small1000 (by omega)
          · refine ⟨Same.own (q := D) (H1 := H2) (s1.trans s2) (mut_keep rfl) nD, ys ++ [v'], upd_same, ?_⟩
            rw [take_snoc he]
            exact dpAll_snoc (DpAll_same (nuD_step s1 s2 _) all1) (Dp_same (nuD_new s1 w1 _) hv)
        · rintro H1 ⟨s1, ys, w1, all1⟩
          rw [dpAll_len all, List.take_length] at all1
          refine ⟨D, ys, rfl, .inl ⟨SqL.of w1, fun l nl => ?_⟩⟩
          have nlH := s1.free nl
          refine q (.ref l) _ (s1.trans (same_upd nl)) (.tup (SqT.of (by unfold nu; rw [if_pos nlH]; exact upd_same)) (DpAll_same (fun a o e => ?_) all1))
          have e := nuD_same _ _ e
          unfold nu at e ⊢
          split at e
          · rename_i z
            rw [if_pos z, upd_ne (ne_some e nl)]
            exact e
          · cases e
theorem copy_none (T : Txt K mg) : FnOk P w K mg base CX0 0 (He.fAd K ("own_copy", none)) T.d_own_copy ["thing"] (sp_copy K fun _ => False) :=
  ⟨fun _ _ _ _ h => by obtain ⟨_, _, _, _, z, _⟩ := h; exact z.elim, fun _ _ _ _ _ _ _ _ _ _ _ _ _ h => by obtain ⟨_, _, _, _, z, _⟩ := h; exact z.elim⟩
def sp_own_copy (K : PySem.W.Frag) : Sp := sp_copy K (Up (Up (Up fun _ => False)))
theorem ok_own_copy (T : Txt K mg) : FnOk P w K mg base CX0 3 (He.fAd K ("own_copy", none)) T.d_own_copy ["thing"] (sp_own_copy K) := copy_step T (copy_step T (copy_step T (copy_none T)))
theorem flats_up {S : PyData → Prop} {ds : List PyData} {n : Nat} (h : UE.Flats ds n) : (∀ d ∈ ds, Up S d) ∧ 2 * ds.length ≤ n := by
  induction h with
  | nil => exact ⟨fun d h => (nomatch h), Nat.le_refl _⟩
  | @cons d n ds m h t ih =>
    refine ⟨fun e he => ?_, by rw [List.length_cons]; omega⟩
    rcases List.mem_cons.mp he with rfl | he
    · exact .flat h
    · exact ih.1 e he
theorem low_up {S : PyData → Prop} {d : PyData} {n : Nat} (h : UE.Low d n) (few : n ≤ 2000) : Up (Up S) d := by
  cases h with
  | flat h => exact .flat h
  | lst h => exact .lst (flats_up h).1 (by have := (flats_up (S := S) h).2; omega)
theorem lows_up {S : PyData → Prop} {ds : List PyData} {n : Nat} (h : UE.Lows ds n) (few : n ≤ 2000) : (∀ d ∈ ds, Up (Up S) d) ∧ 2 * ds.length ≤ n := by
  induction h with
  | nil => exact ⟨fun d h => (nomatch h), Nat.le_refl _⟩
  | @cons d n ds m h t ih =>
    have ih := ih (by omega)
    refine ⟨fun e he => ?_, by rw [List.length_cons]; omega⟩
    rcases List.mem_cons.mp he with rfl | he
    · exact low_up h (by omega)
    · exact ih.1 e he
theorem odd_up {d : PyData} {n : Nat} (h : UE.Odd d n) (few : n ≤ 2000) : Up (Up (Up fun _ => False)) d := by
  cases h with
  | low h =>
    cases h with
    | flat h => exact .flat h
    | lst h => exact .lst (fun e he => by
        cases (flats_up (S := fun _ => False) h).1 e he with
        | flat g => exact .flat g
        | lst g f => exact .lst (fun e he => (g e he).elim) f
        | tup g f => exact .tup (fun e he => (g e he).elim) f) (by have := (flats_up (S := fun _ => False) h).2; omega)
  | tup h => exact .tup (lows_up h (by omega)).1 (by have := (lows_up (S := fun _ => False) h (by omega)).2; omega)

-- SPLIT
/-! ### the refusal of what is no name -/
def sp_NoUnit_init (K : PySem.W.Frag) : Sp := fun vs H Q _ => ∃ (a : Addr) (v : V) (d : PyData) (n : Nat), vs = [.ref a, v] ∧ Dp K H v d ∧ UE.Odd d n ∧ n ≤ 2000 ∧ H a = some (exo a (He.ga K "NoUnit") none) ∧
  ∀ dx v' H', H dx = none → dx ≠ a → H' a = some (exo a (He.ga K "NoUnit") (some dx)) → H' dx = some (exd dx [("name", v')]) → Dp K (nuD dx H H') v' d → (∀ c o, c ≠ a → H c = some o → H' c = some o) → Q .non H'
theorem ok_NoUnit_init (T : Txt K mg) : FnOk P w K mg base CX0 4 (He.fAd K ("NoUnit", some "__init__")) T.d_NoUnit_init ["self", "name"] (sp_NoUnit_init K) := by
  refine T.F_NoUnit_init.ok sc_NoUnit_init (fun vs H Q E h => ?_) (fun cdv A outer s H vs Q E hr h => ?_)
  · obtain ⟨a, v, d, n, rfl, _⟩ := h
    rfl
  · obtain ⟨a, v, d, n, rfl, hd, odd, few, ha, q⟩ := h
    refine ⟨_, PSs.nox (pss_cons (ps_expr (UX.pe_init (B := "KeyError") (newId := "LookupError.__new__") (initId := "KeyError.__init__") (bmB := UE.keTail) (by decide +kernel) (by kernel_rfl) (by decide +kernel) (by decide) (by decide) (by rfl) T.n_KeyError T.vi_KeyError (by decide +kernel) (pa_cons (pv 0) (pa_cons (pe_joined (PJ.cons pe_str (PJ.cons (UE.pe_fmtO hr (pv 1)) PJ.nil))) pa_nil))))
      (pss_one (UX.ps_fld1 (B := "KeyError") (newId := "LookupError.__new__") (initId := "KeyError.__init__") (bmB := UE.keTail) (pv 0) (pe_call (ok_own_copy T) (hr.mono (by decide)) (by rfl) T.m_own_copy T.F_own_copy.kp T.b_own_copy .nil pass0 (pa_cons (pv 1) pa_nil)) rfl))), ?_⟩
    have lo : ∀ {n : Nat}, n ≤ 10000 → n ≤ sizeLine := fun h => by rw [sizeLine_eq]; omega
    have l0 : (Str.ofString "not on the shelf: ").length = 18 := by decide +kernel
    refine ⟨_, rfl, _, rfl, ?_, _, rfl, d, n, hd, odd, by omega, fun m hm => ⟨m, rfl, ?_, a, _, [_], rfl, by show 1 ≤ 1000; decide, T.ox_NoUnit.own, ha, ?_⟩⟩
    · rw [PySem.Str.length_append, l0]
      exact lo (show 0 + 18 ≤ 10000 by decide)
    · rw [PySem.Str.length_append, PySem.Str.length_append, l0]
      exact lo (show 0 + 18 + m.length ≤ 10000 by omega)
    refine ⟨_, rfl, v, d, rfl, hd, odd_up odd few, fun v' H1 s1 hv => ?_⟩
    refine ⟨_, rfl, a, _, rfl, T.ox_NoUnit.own, T.oa_NoUnit_name, s1 _ _ ha, fun dx nd ne => ?_⟩
    refine q dx v' _ (s1.free nd) ne ?_ upd_same (Dp_same (fun b o e => ?_) hv) fun c o n e => ?_
    · rw [upd_ne ne.symm, upd_same]
    · unfold nu at e
      split at e
      · rename_i z
        have n1 : b ≠ dx := ne_some e nd
        have n2 : b ≠ a := fun c => by rw [c, ha] at z; cases z
        unfold nuD
        rw [if_neg n1]
        unfold nu
        rw [if_pos z, upd_ne n1, upd_ne n2]
        exact e
      · cases e
    · have e1 := s1 _ _ e
      rw [upd_ne (ne_some e1 nd), upd_ne n]
      exact e1
/-- who is asked for: a name of the shelf, or any other thing -/
def NoName (K : PySem.W.Frag) (H : Hp) (us : List (Str × UF)) (v : V) (d : PyData) (n : Nat) : Prop := Dp K H v d ∧ UE.Odd d n ∧ n ≤ 2000 ∧ ∀ w ∈ us.map (·.1), d ≠ .str w
theorem NoName.same {H H' : Hp} {us : List (Str × UF)} {v : V} {d : PyData} {n : Nat} (h : NoName K H us v d n) (s : Same H H') : NoName K H' us v d n := ⟨Dp_same s h.1, h.2⟩
/-- the refusal's own part -/
abbrev NoAt (K : PySem.W.Frag) (H : Hp) (d : PyData) (E : XK) : Prop := ∀ e v' H', H e = none → H' e = some (.xd [("name", v')]) → Dp K (nuD e H H') v' d → Same H H' → E (.ref (He.ga K "NoUnit")) (some e) H'

-- SPLIT
/-! ### the shelf -/
/-- no instance with fields -/
def NotIns (H : Hp) (q : Addr) : Prop := ∀ C dx f fs, H q ≠ some (.ins C dx (f :: fs))
theorem NotIns.lst {H : Hp} {q : Addr} {xs : List V} (h : H q = some (.lst xs)) : NotIns H q := fun C dx f fs e => by rw [h] at e; cases e
theorem NotIns.dK {H : Hp} {q : Addr} {xs : List (Key × V)} (h : H q = some (.dK xs)) : NotIns H q := fun C dx f fs e => by rw [h] at e; cases e
theorem NotIns.new {H : Hp} {q C dx : Addr} (h : H q = some (.ins C dx [])) : NotIns H q := fun C' dx' f fs e => by rw [h] at e; cases e
theorem RuleOpt.keepN {H H' : Hp} {v : V} {o : Option (Int × Int × Int × Int × Int)} {q : Addr} (h : RuleOpt K H v o) (k : Kp q H H') (n : NotIns H q) : RuleOpt K H' v o := by
  cases o with
  | none => exact h
  | some o =>
    obtain ⟨f, m, t, b, s'⟩ := o
    obtain ⟨p, e, dx, hp⟩ := h
    exact ⟨p, e, dx, k _ _ hp fun z => n _ _ _ _ (z ▸ hp)⟩
theorem UnitAt.keepN {H H' : Hp} {p q : Addr} {w : Str} {u : UF} (h : UnitAt K H p w u) (k : Kp q H H') (nt : NotTp H q) (ni : NotIns H q) : UnitAt K H' p w u := by
  obtain ⟨dx, n, x, b, a, r, h0, h1, h2, h3, h4, h5⟩ := h
  exact ⟨dx, n, x, b, a, r, k _ _ h0 (fun e => ni _ _ _ _ (e ▸ h0)), k.tup nt h1, k.tup nt h2, k.tup nt h3, k.tup nt h4, h5.keepN k ni⟩
/-- a list of units -/
inductive ULs (K : PySem.W.Frag) (H : Hp) : List V → List (Str × UF) → Prop
  | nil : ULs K H [] []
  | cons {a : Addr} {w : Str} {u : UF} {xs : List V} {us : List (Str × UF)} (e : UnitAt K H a w u) (h : ULs K H xs us) : ULs K H (.ref a :: xs) ((w, u) :: us)
theorem ULs.same {H H' : Hp} {xs : List V} {us : List (Str × UF)} (h : ULs K H xs us) (s : Same H H') : ULs K H' xs us := by
  induction h with
  | nil => exact .nil
  | cons e _ ih => exact .cons (e.same s) ih
theorem ULs.keepN {H H' : Hp} {q : Addr} {xs : List V} {us : List (Str × UF)} (h : ULs K H xs us) (k : Kp q H H') (nt : NotTp H q) (ni : NotIns H q) : ULs K H' xs us := by
  induction h with
  | nil => exact .nil
  | cons e _ ih => exact .cons (e.keepN k nt ni) ih
theorem ULs.len {H : Hp} {xs : List V} {us : List (Str × UF)} (h : ULs K H xs us) : xs.length = us.length := by
  induction h with
  | nil => rfl
  | cons _ _ ih => rw [List.length_cons, List.length_cons, ih]
theorem ULs.get {H : Hp} {xs : List V} {us : List (Str × UF)} (h : ULs K H xs us) {i : Nat} {x : V} (e : xs[i]? = some x) : ∃ a w u, x = .ref a ∧ us[i]? = some (w, u) ∧ UnitAt K H a w u := by
  induction h generalizing i with
  | nil => simp at e
  | @cons a w u _ _ r _ ih =>
    cases i with
    | zero =>
      cases e
      exact ⟨a, w, u, rfl, rfl, r⟩
    | succ i => exact ih e
theorem ULs.app {H : Hp} {xs ys : List V} {us vs : List (Str × UF)} (h : ULs K H xs us) (g : ULs K H ys vs) : ULs K H (xs ++ ys) (us ++ vs) := by
  induction h with
  | nil => exact g
  | cons e _ ih => exact .cons e ih
abbrev UTab (K : PySem.W.Frag) (H : Hp) : List (Key × V) → List (Str × UF) → Prop := Tab fun v w u => ∃ a, v = .ref a ∧ UnitAt K H a w u
def ShelfAt (K : PySem.W.Frag) (H : Hp) (p : Addr) (us : List (Str × UF)) : Prop := ∃ (dx d : Addr) (kvs : List (Key × V)), H p = some (.ins (He.ga K "Shelf") dx [("by_name", .ref d)]) ∧ H d = some (.dK kvs) ∧ UTab K H kvs us
theorem ShelfAt.same {H H' : Hp} {p : Addr} {us : List (Str × UF)} (h : ShelfAt K H p us) (s : Same H H') : ShelfAt K H' p us := by
  obtain ⟨dx, d, kvs, h1, h2, h3⟩ := h
  exact ⟨dx, d, kvs, s _ _ h1, s _ _ h2, h3.imp fun v w u ⟨a, e, r⟩ => ⟨a, e, r.same s⟩⟩
theorem ShelfAt.keepL {H H' : Hp} {p q : Addr} {us : List (Str × UF)} {xs : List V} (h : ShelfAt K H p us) (k : Kp q H H') (hq : H q = some (.lst xs)) : ShelfAt K H' p us := by
  obtain ⟨dx, d, kvs, h1, h2, h3⟩ := h
  refine ⟨dx, d, kvs, k _ _ h1 (fun e => by rw [e, hq] at h1; cases h1), k _ _ h2 (fun e => by rw [e, hq] at h2; cases h2), h3.imp fun v w u ⟨a, e, r⟩ => ⟨a, e, r.keepN k (.lst hq) (.lst hq)⟩⟩
theorem ShelfAt.keepB {H H' : Hp} {p q : Addr} {us : List (Str × UF)} {n : Nat} (h : ShelfAt K H p us) (k : Kp q H H') (B : Bag n H q) : ShelfAt K H' p us := by
  obtain ⟨_, _, _, hq, _⟩ := B.ex
  exact h.keepL k hq
/-- names unlike, at most sixteen -/
structure Nms (us : List (Str × UF)) : Prop where
  nd : (us.map (·.1)).Nodup
  few : us.length ≤ 16
  nm : ∀ x ∈ us.map (·.1), Nm x
theorem Nms.len {us : List (Str × UF)} (n : Nms us) : (us.map (·.1)).length ≤ 16 := by rw [List.length_map]; exact n.few

def sp_Shelf_init (K : PySem.W.Frag) : Sp := fun vs H Q _ => ∃ (p dx l : Addr) (xs : List V) (us : List (Str × UF)), vs = [.ref p, .ref l] ∧ H p = some (.ins (He.ga K "Shelf") dx []) ∧ (SqL K H l xs ∨ SqT K H l xs) ∧ ULs K H xs us ∧ Nms us ∧
  ∀ H', ShelfAt K H' p us → Kp p H H' → Q .non H'
theorem ok_Shelf_init (T : Txt K mg) : FnOk P w K mg base CX0 1 (He.fAd K ("Shelf", some "__init__")) T.d_Shelf_init ["self", "units"] (sp_Shelf_init K) := by
  refine T.F_Shelf_init.ok sc_Shelf_init (fun vs H Q E h => ?_) (fun cdv A outer s H vs Q E hr h => ?_)
  · obtain ⟨p, dx, l, xs, us, rfl, _⟩ := h
    rfl
  · obtain ⟨p, dx, l, xs, us, rfl, hp, hl, hU, hN, q⟩ := h
    refine ⟨_, PSs.nox (pss_cons (ps_set (i := 2) sc_Shelf_init.nd rfl (Or.inl rfl) pe_dnewK)
      (pss_cons (ps_for PassesOwn.never rfl (UP.pi_or (pi_list (pv 1)) (pi_tup (pv 1))) (pg_name (i := 3) sc_Shelf_init.nd rfl (Or.inl rfl))
      (pss_cons (ps_if (PW.pt (pw_or (pt_cmp (pc_din (hu_of hr) (pe_fld (pv 3) rfl) (pv 2))) (pw_or1 (pt_cmpR op_eq (pe_callB (id := "len")  call_lenD (by rfl) T.n_len (by decide +kernel) (pa_cons (pv 2) pa_nil)) (pe_glob (v := .int 16) (by rfl) T.c_MOST.choose_spec ⟨_, rfl⟩) (nomark _)))))
      (pss_one ps_never)
      pss_nil)
      (pss_one (ps_dput (hu_of hr) (pv 2) (pe_fld (pv 3) rfl) (pv 3) rfl))))
      (pss_one (ps_fld (pv 0) (pv 2) rfl)))), ?_⟩
    refine fun d nd => ?_
    generalize hE1 : upd H d _ = H1
    have wd := new_at hE1
    have s1 := new_same hE1 nd
    have npd : p ≠ d := ne_some hp nd
    rcases hl with hl | hl
    · refine .inl ⟨_, rfl, l, rfl, ⟨_, SqL.ext hl s1⟩, for_list (xs := xs) (fun i σ H' => Same H H' ∧ (∃ kvs, H' d = some (.dK kvs) ∧ UTab K H' kvs (us.take i)) ∧ ∃ y : Option V, σ = [some (.ref p), some (.ref l), some (.ref d), y])
        ⟨s1, ⟨[], wd, .nil⟩, none, rfl⟩ (fun i σ H' _ h => SqL.ext hl h.1) ?_ ?_⟩
      · rintro i x σ H2 hi ⟨s2, ⟨kvs, wd2, ht⟩, y, rfl⟩
        obtain ⟨a, w, u, rfl, hu, hA⟩ := hU.get hi
        obtain ⟨dxu, n1, n2, n3, n4, r, ha, _⟩ := id (hA.same s2)
        have hlt : i < us.length := by
          rw [List.getElem?_eq_some_iff] at hu
          exact hu.1
        have hfree : w ∉ (us.take i).map (·.1) := fun hm => by
          obtain ⟨j, hj, e⟩ := List.getElem_of_mem hm
          rw [List.length_map, List.length_take] at hj
          have hn := hN.nd
          have e1 : (us.map (·.1))[i]? = some w := by rw [List.getElem?_map, hu]; rfl
          have e2 : (us.map (·.1))[j]? = some w := by
            rw [List.getElem?_map, List.getElem?_eq_getElem (by omega)]
            rw [List.getElem_map, List.getElem_take] at e
            rw [← e]
            rfl
          have := (List.getElem?_inj (by rw [List.length_map]; omega) hn).mp (e2.trans e1.symm)
          omega
        have few := hN.few
        have hkl : kvs.length = i := by
          rw [ht.len, List.length_take]
          omega
        have hnone := ht.free hfree
        -- if unit.name in by_name or len(by_name) == MOST
        refine ⟨_, rfl, a, _, dxu, _, _, rfl, ha, T.cl_Unit, T.na_Unit_name, rfl, _, rfl, d, _, rfl, DGet.k (k := Sum.inr w) wd2, ?_⟩
        rw [hnone]
        refine ⟨_, rfl, iteF ?_⟩
        refine ⟨_, rfl, d, kvs, rfl, wd2, rfl, _, rfl, ?_⟩
        rw [decide_eq_false (show ¬ V.int (kvs.length : Int) = V.int 16 from fun z => by injection z with z; omega)]
        refine iteF ?_
        -- by_name[unit.name] = unit
        refine ⟨_, rfl, _, rfl, _, rfl, a, _, dxu, _, _, rfl, ha, T.cl_Unit, T.na_Unit_name, rfl, d, _, rfl, DPut.k (k := Sum.inr w) wd2 (small1000 (by omega)), ?_⟩
        rw [putK_new _ hnone]
        generalize hE3 : upd H2 d _ = H3
        have wd3 := new_at hE3
        have m3 := mut_keep hE3
        refine ⟨Same.own s2 m3 nd, ⟨_, wd3, ?_⟩, _, rfl⟩
        rw [take_snoc hu]
        exact (ht.imp fun v w u ⟨a, e, r⟩ => ⟨a, e, r.keepN m3 (.dK wd2) (.dK wd2)⟩).app (.cons ⟨a, rfl, (hA.same s2).keepN m3 (.dK wd2) (.dK wd2)⟩ .nil)
      · rintro σ H2 ⟨s2, ⟨kvs, wd2, ht⟩, y, rfl⟩
        rw [hU.len, List.take_length] at ht
        have hp2 := s2 _ _ hp
        refine ⟨_, rfl, _, rfl, p, _, dx, [], rfl, hp2, T.cl_Shelf, T.na_Shelf_by_name, (by show 0 < 1000; decide), ?_⟩
        generalize hE3 : upd H2 p _ = H3
        have m3 := mut_keep hE3
        exact q H3 ⟨dx, d, kvs, new_at hE3, m3 _ _ wd2 npd.symm, ht.imp fun v w u ⟨a, e, r⟩ => ⟨a, e, r.keepN m3 (.ins hp2) (.new hp2)⟩⟩ ((Kp.of s2).trans m3)
    · refine .inr ⟨_, rfl, l, rfl, ⟨_, tup_same s1 hl⟩, for_tup (xs := xs) (fun i σ H' => Same H H' ∧ (∃ kvs, H' d = some (.dK kvs) ∧ UTab K H' kvs (us.take i)) ∧ ∃ y : Option V, σ = [some (.ref p), some (.ref l), some (.ref d), y])
        ⟨s1, ⟨[], wd, .nil⟩, none, rfl⟩ (fun i σ H' _ h => tup_same h.1 hl) ?_ ?_⟩
      · rintro i x σ H2 hi ⟨s2, ⟨kvs, wd2, ht⟩, y, rfl⟩
        obtain ⟨a, w, u, rfl, hu, hA⟩ := hU.get hi
        obtain ⟨dxu, n1, n2, n3, n4, r, ha, _⟩ := id (hA.same s2)
        have hlt : i < us.length := by
          rw [List.getElem?_eq_some_iff] at hu
          exact hu.1
        have hfree : w ∉ (us.take i).map (·.1) := fun hm => by
          obtain ⟨j, hj, e⟩ := List.getElem_of_mem hm
          rw [List.length_map, List.length_take] at hj
          have hn := hN.nd
          have e1 : (us.map (·.1))[i]? = some w := by rw [List.getElem?_map, hu]; rfl
          have e2 : (us.map (·.1))[j]? = some w := by
            rw [List.getElem?_map, List.getElem?_eq_getElem (by omega)]
            rw [List.getElem_map, List.getElem_take] at e
            rw [← e]
            rfl
          have := (List.getElem?_inj (by rw [List.length_map]; omega) hn).mp (e2.trans e1.symm)
          omega
        have few := hN.few
        have hkl : kvs.length = i := by
          rw [ht.len, List.length_take]
          omega
        have hnone := ht.free hfree
        -- if unit.name in by_name or len(by_name) == MOST
        refine ⟨_, rfl, a, _, dxu, _, _, rfl, ha, T.cl_Unit, T.na_Unit_name, rfl, _, rfl, d, _, rfl, DGet.k (k := Sum.inr w) wd2, ?_⟩
        rw [hnone]
        refine ⟨_, rfl, iteF ?_⟩
        refine ⟨_, rfl, d, kvs, rfl, wd2, rfl, _, rfl, ?_⟩
        rw [decide_eq_false (show ¬ V.int (kvs.length : Int) = V.int 16 from fun z => by injection z with z; omega)]
        refine iteF ?_
        -- by_name[unit.name] = unit
        refine ⟨_, rfl, _, rfl, _, rfl, a, _, dxu, _, _, rfl, ha, T.cl_Unit, T.na_Unit_name, rfl, d, _, rfl, DPut.k (k := Sum.inr w) wd2 (small1000 (by omega)), ?_⟩
        rw [putK_new _ hnone]
        generalize hE3 : upd H2 d _ = H3
        have wd3 := new_at hE3
        have m3 := mut_keep hE3
        refine ⟨Same.own s2 m3 nd, ⟨_, wd3, ?_⟩, _, rfl⟩
        rw [take_snoc hu]
        exact (ht.imp fun v w u ⟨a, e, r⟩ => ⟨a, e, r.keepN m3 (.dK wd2) (.dK wd2)⟩).app (.cons ⟨a, rfl, (hA.same s2).keepN m3 (.dK wd2) (.dK wd2)⟩ .nil)
      · rintro σ H2 ⟨s2, ⟨kvs, wd2, ht⟩, y, rfl⟩
        rw [hU.len, List.take_length] at ht
        have hp2 := s2 _ _ hp
        refine ⟨_, rfl, _, rfl, p, _, dx, [], rfl, hp2, T.cl_Shelf, T.na_Shelf_by_name, (by show 0 < 1000; decide), ?_⟩
        generalize hE3 : upd H2 p _ = H3
        have m3 := mut_keep hE3
        exact q H3 ⟨dx, d, kvs, new_at hE3, m3 _ _ wd2 npd.symm, ht.imp fun v w u ⟨a, e, r⟩ => ⟨a, e, r.keepN m3 (.ins hp2) (.new hp2)⟩⟩ ((Kp.of s2).trans m3)
def sp_Shelf_names (K : PySem.W.Frag) : Sp := fun vs H Q _ => ∃ (p : Addr) (us : List (Str × UF)), vs = [.ref p] ∧ ShelfAt K H p us ∧ Nms us ∧
  ∀ l H', H l = none → Same H H' → H' l = some (.lst ((srt (us.map (·.1))).map V.str)) → Q (.ref l) H'
theorem ok_Shelf_names (T : Txt K mg) : FnOk P w K mg base CX0 1 (He.fAd K ("Shelf", some "names")) T.d_Shelf_names ["self"] (sp_Shelf_names K) := by
  refine T.F_Shelf_names.ok sc_Shelf_names (fun vs H Q E h => ?_) (fun cdv A outer s H vs Q E hr h => ?_)
  · obtain ⟨p, us, rfl, _⟩ := h
    rfl
  · obtain ⟨p, us, rfl, hS, hN, q⟩ := h
    refine ⟨_, PSs.nox (pss_one (ps_ret (pe_callB (id := "sorted")  (call_sortedD rfl) (by rfl) T.n_sorted (by decide +kernel) (pa_cons (pe_fld (pv 0) rfl) pa_nil)))), ?_⟩
    obtain ⟨dx, d, kvs, hp, hd, ht⟩ := id hS
    have few := hN.len
    refine ⟨_, rfl, p, _, dx, _, _, rfl, hp, T.cl_Shelf, T.na_Shelf_by_name, rfl, d, kvs, us.map (·.1), rfl, .inl hd, ht.keys, by omega, fun ys l hy hs nl => ?_⟩
    obtain rfl := srt_of hy hs
    exact q l _ nl (same_upd nl) upd_same

-- SPLIT
/-! ### what follows at once -/
abbrev onS : Str := Str.ofString "on"
abbrev offS : Str := Str.ofString "off"
theorem ok_off : PyData.strOk offS = true := by decide +kernel
theorem ok_on : PyData.strOk onS = true := by decide +kernel
def needB (us : List (Str × UF)) (w o : Str) : Bool := match fu us o with
  | some v => decide (w ∈ v.needs)
  | none => false
def barB (us : List (Str × UF)) (w o : Str) : Bool := match fu us w, fu us o with
  | some u, some v => decide (o ∈ u.bars) || decide (w ∈ v.bars)
  | _, _ => false
def nd (us : List (Str × UF)) (w : Str) : List Str := (srt (us.map (·.1))).filter (needB us w)
def br (us : List (Str × UF)) (w : Str) : List Str := (srt (us.map (·.1))).filter (barB us w)
def ned (us : List (Str × UF)) (w : Str) : List Str := match fu us w with
  | some u => u.needs.filter fun x => decide (x ∈ us.map (·.1))
  | none => []
def ao (us : List (Str × UF)) (d : Str × Str) : List (Str × Str) :=
  if d.2 = offS then (nd us d.1).map (·, offS) else srtP ((ned us d.1).map (·, onS) ++ (br us d.1).map (·, offS))
theorem filt_len {us : List (Str × UF)} (h : Nms us) (f : Str → Bool) : ((srt (us.map (·.1))).filter f).length ≤ 16 := by
  refine Nat.le_trans (List.length_filter_le _ _) ?_
  rw [srt_len]
  exact h.len
theorem Nms.val {R : V → Str → UF → Prop} {kvs : List (Key × V)} {us : List (Str × UF)} (n : Nms us) (h : Tab R kvs us) (w : Str) : (valV kvs (Sum.inr w : Key)).isSome = decide (w ∈ us.map (·.1)) := by
  by_cases c : w ∈ us.map (·.1)
  · obtain ⟨p, hp, rfl⟩ := List.mem_map.mp c
    obtain ⟨v, hv, _⟩ := h.get n.nd p hp
    rw [hv, decide_eq_true c]
    rfl
  · rw [h.free c, decide_eq_false c]
    rfl
/-- whether a thing is a text -/
def strD : PyData → Bool
  | .str _ => true
  | _ => false
theorem kit_str : ∀ {d : PyData}, (∀ kvs, d ≠ .dict kvs) → PySem.W.kitOne K (.type (tyD d)) (.type "str") = some (strD d)
  | .none, _ => kit_ty (by decide +kernel)
  | .bool _, _ => kit_ty (a := "bool") (r := false) (by decide +kernel)
  | .int _, _ => kit_ty (a := "int") (r := false) (by decide +kernel)
  | .str _, _ => kit_ty (a := "str") (r := true) (by decide +kernel)
  | .list _, _ => kit_ty (a := "list") (r := false) (by decide +kernel)
  | .tuple _, _ => kit_ty (a := "tuple") (r := false) (by decide +kernel)
  | .dict kvs, h => absurd rfl (h kvs)
/-- whether a thing is a name of the shelf -/
def isNm (us : List (Str × UF)) : PyData → Bool
  | .str x => decide (x ∈ us.map (·.1))
  | _ => false
theorem isNm_no {us : List (Str × UF)} {d : PyData} (h : ∀ w ∈ us.map (·.1), d ≠ .str w) : isNm us d = false := by
  cases d with
  | str x => exact decide_eq_false fun z => h x z rfl
  | _ => rfl
def sp_Shelf_has (K : PySem.W.Frag) : Sp := fun vs H Q _ => ∃ (p : Addr) (v : V) (d : PyData) (us : List (Str × UF)), vs = [.ref p, v] ∧ ShelfAt K H p us ∧ Nms us ∧ Dp K H v d ∧ (∀ kvs, d ≠ .dict kvs) ∧ Q (.bl (isNm us d)) H
theorem ok_Shelf_has (T : Txt K mg) : FnOk P w K mg base CX0 1 (He.fAd K ("Shelf", some "has")) T.d_Shelf_has ["self", "name"] (sp_Shelf_has K) := by
  refine T.F_Shelf_has.ok sc_Shelf_has (fun vs H Q E h => ?_) (fun cdv A outer s H vs Q E hr h => ?_)
  · obtain ⟨p, v, d, us, rfl, _⟩ := h
    rfl
  · obtain ⟨p, v, d, us, rfl, hS, hN, hd, nod, q⟩ := h
    refine ⟨_, PSs.nox (pss_one (ps_ret (pe_mid (pe_and (pe_callB (id := "isinstance")  call_isi (by rfl) T.n_isinstance (by decide +kernel) (pa_cons (pv 1) (pa_cons (pe_bltn (v := .ty "str") (u := .type "str") (by rfl) T.n_str (by decide +kernel) rfl) pa_nil))) (pe_one (pe_cmp (pc_din (hu_of hr) (pv 1) (pe_fld (pv 0) rfl)))))))), ?_⟩
    obtain ⟨dx, D, kvs, hp, hD, ht⟩ := id hS
    refine ⟨fun u H' => H' = H ∧ u = .bl (isNm us d), ?_, ?_⟩
    · refine ⟨_, rfl, _, _, _, _, strD d, rfl, .ty "str", dp_ty hd, kit_str nod, strD d, rfl, ?_⟩
      cases hd with
      | str x =>
        refine iteT ⟨_, rfl, _, rfl, p, _, dx, _, _, rfl, hp, T.cl_Shelf, T.na_Shelf_by_name, rfl, D, _, rfl, DGet.k (k := Sum.inr x) hD, rfl, ?_⟩
        rw [hN.val ht x]
        rfl
      | _ => exact iteF ⟨rfl, rfl⟩
    · rintro u H' ⟨rfl, rfl⟩
      exact q
/-- a name of the shelf, and what is then; or another thing -/
abbrev Who (K : PySem.W.Frag) (H : Hp) (us : List (Str × UF)) (v : V) (E : XK) (q : Str → Prop) : Prop := (∃ w, v = .str w ∧ w ∈ us.map (·.1) ∧ q w) ∨ ∃ d n, NoName K H us v d n ∧ NoAt K H d E
theorem who_dp {H : Hp} {us : List (Str × UF)} {v : V} {E : XK} {q : Str → Prop} (h : Who K H us v E q) : ∃ d, Dp K H v d ∧ (∀ kvs, d ≠ .dict kvs) := by
  rcases h with ⟨w, rfl, _⟩ | ⟨d, n, no, _⟩
  · exact ⟨_, .str w, fun _ z => nomatch z⟩
  · refine ⟨d, no.1, fun kvs z => ?_⟩
    subst z
    cases no.1
def sp_Shelf_unit (K : PySem.W.Frag) : Sp := fun vs H Q E => ∃ (p : Addr) (v : V) (us : List (Str × UF)), vs = [.ref p, v] ∧ ShelfAt K H p us ∧ Nms us ∧ Who K H us v E fun w => ∀ a u, (w, u) ∈ us → UnitAt K H a w u → Q (.ref a) H
theorem ok_Shelf_unit (T : Txt K mg) : FnOk P w K mg base (L2N.CX P w) 6 (He.fAd K ("Shelf", some "unit")) T.d_Shelf_unit ["self", "name"] (sp_Shelf_unit K) := by
  refine T.F_Shelf_unit.ok sc_Shelf_unit (fun vs H Q E h => ?_) (fun cdv A outer s H vs Q E hr h => ?_)
  · obtain ⟨p, v, us, rfl, _⟩ := h
    rfl
  · obtain ⟨p, v, us, rfl, hS, hN, hw⟩ := h
    refine ⟨_, (pss_cons (ps_if (pt_not (pt_val (pe_meth (pv 0) T.cl_Shelf T.me_Shelf_has (ok_Shelf_has T) (hr.mono (by decide)) T.b_Shelf_has .nil pass0 (pa_cons (pv 1) pa_nil))))
      (pss_one (L2N.ps_raise (by rfl) (L2N.takes_of rfl rfl rfl rfl) (UX.pm_own T.ox_NoUnit.own T.ox_NoUnit.init T.ox_NoUnit.fn (ok_NoUnit_init T) (hr.mono (by decide)) T.b_NoUnit_init pass0 (by rfl) T.m_NoUnit (pa_cons (pv 1) pa_nil))))
      pss_nil)
      (pss_one (ps_ret (pe_dget (hu_of hr) (pe_fld (pv 0) rfl) (pv 1) (fun _ _ => rfl))))), ?_⟩
    obtain ⟨dx, d, kvs, hp, hd, ht⟩ := id hS
    obtain ⟨d0, hd0, nod⟩ := who_dp hw
    refine ⟨_, rfl, p, dx, _, rfl, hp, rfl, _, rfl, p, v, d0, us, rfl, hS, hN, hd0, nod, ?_⟩
    rcases hw with ⟨w, rfl, hw, q⟩ | ⟨d1, n, no, qE⟩
    · cases hd0
      obtain ⟨u, hu⟩ : ∃ u, (w, u) ∈ us := by
        obtain ⟨r, hr, rfl⟩ := List.mem_map.mp hw
        exact ⟨r.2, hr⟩
      obtain ⟨v, hv, a, rfl, hA⟩ := ht.get hN.nd (w, u) hu
      rw [show isNm us (.str w) = true from decide_eq_true hw]
      refine ⟨true, rfl, iteF ?_⟩
      refine ⟨_, rfl, p, _, dx, _, _, rfl, hp, T.cl_Shelf, T.na_Shelf_by_name, rfl, _, rfl, d, .ref a, rfl, by rw [← hv]; exact DGet.k (k := Sum.inr w) hd, ?_⟩
      exact q a u hu hA
    · have e0 : isNm us d0 = false := by
        obtain ⟨h1, h2, h3, h4⟩ := no
        cases hd0 <;> cases h1 <;> first | rfl | exact isNm_no h4
      rw [e0]
      refine ⟨false, rfl, iteT ?_⟩
      refine ⟨_, rfl, by show 1 ≤ 1000; decide, fun x nx => ?_⟩
      have nxo : ∀ {b o}, H b = some o → b ≠ x := fun e => ne_some e nx
      refine ⟨x, v, d1, n, rfl, Dp_same (same_upd nx) no.1, no.2.1, no.2.2.1, upd_same, fun ex v' H4 nex ne w4 w4d hv' k4 => ⟨rfl, ex, _, w4, w4d, ?_, ?_⟩⟩
      · rw [upd_ne ne] at nex
        exact nex
      · rw [upd_ne ne] at nex
        refine qE ex v' _ nex upd_same (Dp_same (fun b o e => ?_) hv') fun b o e => ?_
        · unfold nuD at e ⊢
          split at e
          · cases e
          · rename_i n1
            rw [if_neg n1]
            unfold nu at e ⊢
            split at e
            · rename_i z
              by_cases c : b = x
              · rw [c, upd_same] at z
                cases z
              · rw [upd_ne c] at z
                rw [if_pos z, upd_ne n1, del_ne c]
                exact e
            · cases e
        · have nb : b ≠ x := nxo e
          rw [upd_ne (ne_some e nex), del_ne nb]
          exact k4 b o nb (by rw [upd_ne nb]; exact e)
def sp_Shelf_needing (K : PySem.W.Frag) : Sp := fun vs H Q E => ∃ (p : Addr) (v : V) (us : List (Str × UF)), vs = [.ref p, v] ∧ ShelfAt K H p us ∧ Nms us ∧ Who K H us v E fun w => ∀ l H', H l = none → Same H H' → H' l = some (.lst ((nd us w).map V.str)) → Q (.ref l) H'
theorem ok_Shelf_needing (T : Txt K mg) : FnOk P w K mg base (L2N.CX P w) 7 (He.fAd K ("Shelf", some "needing")) T.d_Shelf_needing ["self", "name"] (sp_Shelf_needing K) := by
  refine T.F_Shelf_needing.ok sc_Shelf_needing (fun vs H Q E h => ?_) (fun cdv A outer s H vs Q E hr h => ?_)
  · obtain ⟨p, v, us, rfl, _⟩ := h
    rfl
  · obtain ⟨p, v, us, rfl, hS, hN, hw⟩ := h
    refine ⟨_, (pss_cons (ps_expr (pe_meth (pv 0) T.cl_Shelf T.me_Shelf_unit (ok_Shelf_unit T) (hr.mono (by decide)) T.b_Shelf_unit .nil (L2N.passes_call (L2N.takes_of rfl rfl rfl rfl) (fun _ _ _ _ z => z)) (pa_cons (pv 1) pa_nil)))
      (pss_one (ps_ret (pe_lc (own := [("other", 2)]) (by rfl) sc_Shelf_needing.nd (pi_list (pe_meth0 (pv 0) T.cl_Shelf T.me_Shelf_names (ok_Shelf_names T) (hr.mono (by decide)) T.b_Shelf_names .nil pass0)) (blkOk_by (own := [("other", 2)]) (N := N_Shelf_needing) (sc := defScope s_Shelf_needing) (by decide +kernel)) (fun _ _ _ _ _ => (pg_name (i := 2) sc_Shelf_needing.nd rfl (Or.inl rfl))) (fun _ _ _ _ _ => by exact (pts_one (pt_cmpR (r := rIn K false) op_in_seq (pv 1) (UP.pe_fldK (K := K) (by rfl) (pe_dget (hu_of hr) (UP.pe_fldK (K := K) (by rfl) (pv 0) (by rfl)) (pv 2) (fun _ _ => rfl)) (by rfl)) (by rfl)))) (fun _ _ _ _ _ => (pv 2)))))), ?_⟩
    obtain ⟨dx, d, kvs, hp, hd, ht⟩ := id hS
    refine ⟨_, rfl, p, dx, _, rfl, hp, rfl, _, rfl, p, v, us, rfl, hS, hN, ?_⟩
    rcases hw with ⟨w, rfl, hw, q⟩ | no
    rotate_left
    · exact .inr no
    refine .inl ⟨w, rfl, hw, fun a u hu hA => ?_⟩
    refine ⟨_, rfl, p, dx, _, rfl, hp, rfl, p, us, rfl, hS, hN, fun l H1 nl s1 wl => ?_⟩
    refine ⟨l, rfl, ⟨_, SqL.of wl⟩, fun D nD => ?_⟩
    refine lc_list (xs := (srt (us.map (·.1))).map V.str) (fun i H' => Same H1 H' ∧ H' D = some (.lst ((((srt (us.map (·.1))).take i).filter (needB us w)).map V.str))) ⟨same_upd nD, upd_same⟩ (fun i H' _ h => SqL.of (h.1 _ _ wl)) ?_ ?_
    · rintro i x H2 hi ⟨s2, w2⟩
      obtain ⟨o, ho, rfl⟩ := map_str_get hi
      have hom : o ∈ us.map (·.1) := srt_mem.mp (List.mem_of_getElem? ho)
      obtain ⟨v, hfo, hv⟩ := fu_of hom hN.nd
      have wb : needB us w o = decide (w ∈ v.needs) := by
        unfold needB
        rw [hfo]
      have s12 := s1.trans s2
      obtain ⟨ov, hov, b, rfl, hB⟩ := ht.get hN.nd (o, v) hv
      obtain ⟨dxv, m1, m2, m3, m4, r2, hb, hm1, _⟩ := id hB
      refine ⟨rfl, _, rfl, _, rfl, p, _, dx, _, _, rfl, s12 _ _ hp, T.cl_Shelf, T.na_Shelf_by_name, rfl, _, rfl, d, .ref b, rfl, by rw [← hov]; exact DGet.k (k := Sum.inr o) (s12 _ _ hd), b, _, dxv, _, _, rfl, s12 _ _ hb, T.cl_Unit, T.na_Unit_needs, rfl, m1, _, rfl, .inr (tup_same s12 hm1), rfl, strs_flat _, _, rfl, ?_⟩
      rw [inV_str, take_filter_snoc _ ho, wb]
      by_cases c : w ∈ v.needs
      · rw [decide_eq_true c]
        refine iteT ⟨_, rfl, _, w2, ?_, Same.own (q := D) s2 (mut_keep rfl) nD, ?_⟩
        · rw [List.length_map]
          refine Nat.lt_of_le_of_lt (List.length_filter_le _ _) (Nat.lt_of_le_of_lt (List.length_take_le' ..) (small1000 ?_))
          rw [srt_len]
          have := hN.len
          omega
        · rw [upd_same, if_pos rfl, List.map_append]
          rfl
      · rw [decide_eq_false c]
        refine iteF ⟨s2, ?_⟩
        rw [if_neg Bool.false_ne_true, List.append_nil]
        exact w2
    · rintro H2 ⟨s2, w2⟩
      rw [List.length_map, List.take_length] at w2
      exact q D H2 (s1.free nD) (s1.trans s2) w2
def sp_Shelf_barred (K : PySem.W.Frag) : Sp := fun vs H Q E => ∃ (p : Addr) (v : V) (us : List (Str × UF)), vs = [.ref p, v] ∧ ShelfAt K H p us ∧ Nms us ∧ Who K H us v E fun w => ∀ l H', H l = none → Same H H' → H' l = some (.lst ((br us w).map V.str)) → Q (.ref l) H'
theorem ok_Shelf_barred (T : Txt K mg) : FnOk P w K mg base (L2N.CX P w) 7 (He.fAd K ("Shelf", some "barred")) T.d_Shelf_barred ["self", "name"] (sp_Shelf_barred K) := by
  refine T.F_Shelf_barred.ok sc_Shelf_barred (fun vs H Q E h => ?_) (fun cdv A outer s H vs Q E hr h => ?_)
  · obtain ⟨p, v, us, rfl, _⟩ := h
    rfl
  · obtain ⟨p, v, us, rfl, hS, hN, hw⟩ := h
    refine ⟨_, (pss_cons (ps_set (i := 2) sc_Shelf_barred.nd rfl (Or.inr rfl) (pe_fld (pe_meth (pv 0) T.cl_Shelf T.me_Shelf_unit (ok_Shelf_unit T) (hr.mono (by decide)) T.b_Shelf_unit .nil (L2N.passes_call (L2N.takes_of rfl rfl rfl rfl) (fun _ _ _ _ z => z)) (pa_cons (pv 1) pa_nil)) rfl))
      (pss_one (ps_ret (pe_lc (own := [("other", 3)]) (by rfl) sc_Shelf_barred.nd (pi_list (pe_meth0 (pv 0) T.cl_Shelf T.me_Shelf_names (ok_Shelf_names T) (hr.mono (by decide)) T.b_Shelf_names .nil pass0)) (blkOk_by (own := [("other", 3)]) (N := N_Shelf_barred) (sc := defScope s_Shelf_barred) (by decide +kernel)) (fun _ _ _ _ _ => (pg_name (i := 3) sc_Shelf_barred.nd rfl (Or.inl rfl))) (fun _ _ _ _ _ => by exact (pts_one (PW.pt (pw_or (pt_cmpR (r := rIn K false) op_in_seq (pv 3) (pv 2) (by rfl)) (pw_or1 (pt_cmpR (r := rIn K false) op_in_seq (pv 1) (UP.pe_fldK (K := K) (by rfl) (pe_dget (hu_of hr) (UP.pe_fldK (K := K) (by rfl) (pv 0) (by rfl)) (pv 3) (fun _ _ => rfl)) (by rfl)) (by rfl))))))) (fun _ _ _ _ _ => (pv 3)))))), ?_⟩
    obtain ⟨dx, d, kvs, hp, hd, ht⟩ := id hS
    refine ⟨_, rfl, p, dx, _, rfl, hp, rfl, _, rfl, p, v, us, rfl, hS, hN, ?_⟩
    rcases hw with ⟨w, rfl, hw, q⟩ | no
    rotate_left
    · exact .inr no
    refine .inl ⟨w, rfl, hw, fun a u hu hA => ?_⟩
    have hfu : fu us w = some u := fu_some hN.nd hu
    obtain ⟨dxu, n1, n2, n3, n4, r, ha, hn1, hn2, hn3, hn4, _⟩ := id hA
    refine ⟨a, _, dxu, _, _, rfl, ha, T.cl_Unit, T.na_Unit_bars, rfl, ?_⟩
    refine ⟨_, rfl, p, dx, _, rfl, hp, rfl, p, us, rfl, hS, hN, fun l H1 nl s1 wl => ?_⟩
    refine ⟨l, rfl, ⟨_, SqL.of wl⟩, fun D nD => ?_⟩
    refine lc_list (xs := (srt (us.map (·.1))).map V.str) (fun i H' => Same H1 H' ∧ H' D = some (.lst ((((srt (us.map (·.1))).take i).filter (barB us w)).map V.str))) ⟨same_upd nD, upd_same⟩ (fun i H' _ h => SqL.of (h.1 _ _ wl)) ?_ ?_
    · rintro i x H2 hi ⟨s2, w2⟩
      obtain ⟨o, ho, rfl⟩ := map_str_get hi
      have hom : o ∈ us.map (·.1) := srt_mem.mp (List.mem_of_getElem? ho)
      obtain ⟨v, hfo, hv⟩ := fu_of hom hN.nd
      have wb : barB us w o = (decide (o ∈ u.bars) || decide (w ∈ v.bars)) := by
        unfold barB
        rw [hfu, hfo]
      have s12 := s1.trans s2
      have hlen : ((((srt (us.map (·.1))).take i).filter (barB us w)).map V.str).length < sizeLine := by
        rw [List.length_map]
        refine Nat.lt_of_le_of_lt (List.length_filter_le _ _) (Nat.lt_of_le_of_lt (List.length_take_le' ..) (small1000 ?_))
        rw [srt_len]
        have := hN.len
        omega
      have yes : barB us w o = true → Same H1 (upd H2 D (.lst (((((srt (us.map (·.1))).take i).filter (barB us w)).map V.str) ++ [.str o]))) ∧ (upd H2 D (.lst (((((srt (us.map (·.1))).take i).filter (barB us w)).map V.str) ++ [.str o]))) D = some (.lst ((((srt (us.map (·.1))).take (i + 1)).filter (barB us w)).map V.str)) := fun c => by
        refine ⟨Same.own (q := D) s2 (mut_keep rfl) nD, ?_⟩
        rw [upd_same, take_filter_snoc _ ho, if_pos c, List.map_append]
        rfl
      refine ⟨rfl, _, rfl, _, rfl, n3, _, rfl, .inr (tup_same s12 hn3), rfl, strs_flat _, _, rfl, ?_⟩
      rw [inV_str]
      by_cases c1 : o ∈ u.bars
      · rw [decide_eq_true c1] at wb ⊢
        exact iteT (iteT ⟨_, rfl, _, w2, hlen, yes (by rw [wb]; rfl)⟩)
      rw [decide_eq_false c1] at wb ⊢
      obtain ⟨ov, hov, b, rfl, hB⟩ := ht.get hN.nd (o, v) hv
      obtain ⟨dxv, m1, m2, m3, m4, r2, hb, hm1, hm2, hm3, _⟩ := id hB
      refine iteF ⟨_, rfl, _, rfl, p, _, dx, _, _, rfl, s12 _ _ hp, T.cl_Shelf, T.na_Shelf_by_name, rfl, _, rfl, d, .ref b, rfl, by rw [← hov]; exact DGet.k (k := Sum.inr o) (s12 _ _ hd), b, _, dxv, _, _, rfl, s12 _ _ hb, T.cl_Unit, T.na_Unit_bars, rfl, m3, _, rfl, .inr (tup_same s12 hm3), rfl, strs_flat _, _, rfl, ?_⟩
      rw [inV_str]
      by_cases c3 : w ∈ v.bars
      · rw [decide_eq_true c3] at wb ⊢
        exact iteT ⟨_, rfl, _, w2, hlen, yes (by rw [wb]; rfl)⟩
      · rw [decide_eq_false c3] at wb ⊢
        refine iteF ⟨s2, ?_⟩
        rw [take_filter_snoc _ ho, if_neg (by rw [wb]; exact Bool.false_ne_true), List.append_nil]
        exact w2
    · rintro H2 ⟨s2, w2⟩
      rw [List.length_map, List.take_length] at w2
      exact q D H2 (s1.free nD) (s1.trans s2) w2
def sp_Shelf_waited (K : PySem.W.Frag) : Sp := fun vs H Q E => ∃ (p : Addr) (v : V) (us : List (Str × UF)), vs = [.ref p, v] ∧ ShelfAt K H p us ∧ Nms us ∧ Who K H us v E fun w => ∀ l H', H l = none → Same H H' → H' l = some (.lst ((wt us w).map V.str)) → Q (.ref l) H'
theorem ok_Shelf_waited (T : Txt K mg) : FnOk P w K mg base (L2N.CX P w) 7 (He.fAd K ("Shelf", some "waited")) T.d_Shelf_waited ["self", "name"] (sp_Shelf_waited K) := by
  refine T.F_Shelf_waited.ok sc_Shelf_waited (fun vs H Q E h => ?_) (fun cdv A outer s H vs Q E hr h => ?_)
  · obtain ⟨p, v, us, rfl, _⟩ := h
    rfl
  · obtain ⟨p, v, us, rfl, hS, hN, hw⟩ := h
    refine ⟨_, (pss_cons (ps_set (i := 2) sc_Shelf_waited.nd rfl (Or.inr rfl) (pe_meth (pv 0) T.cl_Shelf T.me_Shelf_unit (ok_Shelf_unit T) (hr.mono (by decide)) T.b_Shelf_unit .nil (L2N.passes_call (L2N.takes_of rfl rfl rfl rfl) (fun _ _ _ _ z => z)) (pa_cons (pv 1) pa_nil)))
      (pss_one (ps_ret (pe_lc (own := [("other", 3)]) (by rfl) sc_Shelf_waited.nd (pi_list (pe_meth0 (pv 0) T.cl_Shelf T.me_Shelf_names (ok_Shelf_names T) (hr.mono (by decide)) T.b_Shelf_names .nil pass0)) (blkOk_by (own := [("other", 3)]) (N := N_Shelf_waited) (sc := defScope s_Shelf_waited) (by decide +kernel)) (fun _ _ _ _ _ => (pg_name (i := 3) sc_Shelf_waited.nd rfl (Or.inl rfl))) (fun _ _ _ _ _ => by exact (pts_one (PW.pt (pw_or (pt_cmpR (r := rIn K false) op_in_seq (pv 3) (UP.pe_fldK (K := K) (by rfl) (pv 2) (by rfl)) (by rfl)) (pw_or (pt_cmpR (r := rIn K false) op_in_seq (pv 3) (UP.pe_fldK (K := K) (by rfl) (pv 2) (by rfl)) (by rfl)) (pw_or1 (pt_cmpR op_eq (UP.pe_fldK (K := K) (by rfl) (pe_dget (hu_of hr) (UP.pe_fldK (K := K) (by rfl) (pv 0) (by rfl)) (pv 3) (fun _ _ => rfl)) (by rfl)) (pv 1) (nomark _)))))))) (fun _ _ _ _ _ => (pv 3)))))), ?_⟩
    obtain ⟨dx, d, kvs, hp, hd, ht⟩ := id hS
    refine ⟨_, rfl, p, dx, _, rfl, hp, rfl, _, rfl, p, v, us, rfl, hS, hN, ?_⟩
    rcases hw with ⟨w, rfl, hw, q⟩ | no
    rotate_left
    · exact .inr no
    refine .inl ⟨w, rfl, hw, fun a u hu hA => ?_⟩
    have hfu : fu us w = some u := fu_some hN.nd hu
    obtain ⟨dxu, n1, n2, n3, n4, r, ha, hn1, hn2, hn3, hn4, _⟩ := id hA
    refine ⟨_, rfl, p, dx, _, rfl, hp, rfl, p, us, rfl, hS, hN, fun l H1 nl s1 wl => ?_⟩
    refine ⟨l, rfl, ⟨_, SqL.of wl⟩, fun D nD => ?_⟩
    refine lc_list (xs := (srt (us.map (·.1))).map V.str) (fun i H' => Same H1 H' ∧ H' D = some (.lst ((((srt (us.map (·.1))).take i).filter (waitsB us w)).map V.str))) ⟨same_upd nD, upd_same⟩ (fun i H' _ h => SqL.of (h.1 _ _ wl)) ?_ ?_
    · rintro i x H2 hi ⟨s2, w2⟩
      obtain ⟨o, ho, rfl⟩ := map_str_get hi
      have hom : o ∈ us.map (·.1) := srt_mem.mp (List.mem_of_getElem? ho)
      obtain ⟨v, hfo, hv⟩ := fu_of hom hN.nd
      have wb : waitsB us w o = (decide (o ∈ u.needs) || (decide (o ∈ u.after) || decide (v.opens = some w))) := by
        unfold waitsB
        rw [hfu, hfo]
      have s12 := s1.trans s2
      have few := hN.len
      have hlen : ((((srt (us.map (·.1))).take i).filter (waitsB us w)).map V.str).length < sizeLine := by
        rw [List.length_map]
        refine Nat.lt_of_le_of_lt (List.length_filter_le _ _) (Nat.lt_of_le_of_lt (List.length_take_le' ..) (small1000 ?_))
        rw [srt_len]
        omega
      have yes : waitsB us w o = true → Same H1 (upd H2 D (.lst (((((srt (us.map (·.1))).take i).filter (waitsB us w)).map V.str) ++ [.str o]))) ∧ (upd H2 D (.lst (((((srt (us.map (·.1))).take i).filter (waitsB us w)).map V.str) ++ [.str o]))) D = some (.lst ((((srt (us.map (·.1))).take (i + 1)).filter (waitsB us w)).map V.str)) := fun c => by
        refine ⟨Same.own (q := D) s2 (mut_keep rfl) nD, ?_⟩
        rw [upd_same, take_filter_snoc _ ho, if_pos c, List.map_append]
        rfl
      have no : waitsB us w o = false → Same H1 H2 ∧ H2 D = some (.lst ((((srt (us.map (·.1))).take (i + 1)).filter (waitsB us w)).map V.str)) := fun c => by
        refine ⟨s2, ?_⟩
        rw [take_filter_snoc _ ho, if_neg (by rw [c]; exact Bool.false_ne_true), List.append_nil]
        exact w2
      refine ⟨rfl, _, rfl, _, rfl, a, _, dxu, _, _, rfl, s12 _ _ ha, T.cl_Unit, T.na_Unit_needs, rfl, n1, _, rfl, .inr (tup_same s12 hn1), rfl, strs_flat _, _, rfl, ?_⟩
      rw [inV_str]
      by_cases c1 : o ∈ u.needs
      · rw [decide_eq_true c1] at wb ⊢
        exact iteT (iteT ⟨_, rfl, _, w2, hlen, yes (by rw [wb]; rfl)⟩)
      rw [decide_eq_false c1] at wb ⊢
      refine iteF ⟨_, rfl, _, rfl, a, _, dxu, _, _, rfl, s12 _ _ ha, T.cl_Unit, T.na_Unit_after, rfl, n4, _, rfl, .inr (tup_same s12 hn4), rfl, strs_flat _, _, rfl, ?_⟩
      rw [inV_str]
      by_cases c2 : o ∈ u.after
      · rw [decide_eq_true c2] at wb ⊢
        exact iteT (iteT ⟨_, rfl, _, w2, hlen, yes (by rw [wb]; rfl)⟩)
      rw [decide_eq_false c2] at wb ⊢
      obtain ⟨ov, hov, b, rfl, hB⟩ := ht.get hN.nd (o, v) hv
      obtain ⟨dxv, m1, m2, m3, m4, r2, hb, _⟩ := id hB
      refine iteF ⟨_, rfl, p, _, dx, _, _, rfl, s12 _ _ hp, T.cl_Shelf, T.na_Shelf_by_name, rfl, _, rfl, d, .ref b, rfl, by rw [← hov]; exact DGet.k (k := Sum.inr o) (s12 _ _ hd), b, _, dxv, _, _, rfl, s12 _ _ hb, T.cl_Unit, T.na_Unit_opens, rfl, _, rfl, scal_optV v.opens (some w), _, rfl, ?_⟩
      rw [show decide (optV v.opens = V.str w) = decide (v.opens = some w) from dec_optV (y := some w)]
      by_cases c3 : v.opens = some w
      · rw [decide_eq_true c3] at wb ⊢
        exact iteT ⟨_, rfl, _, w2, hlen, yes (by rw [wb]; rfl)⟩
      · rw [decide_eq_false c3] at wb ⊢
        exact iteF (no (by rw [wb]; rfl))
    · rintro H2 ⟨s2, w2⟩
      rw [List.length_map, List.take_length] at w2
      exact q D H2 (s1.free nD) (s1.trans s2) w2

-- SPLIT
/-! ### the facts as a table, the units of it -/
abbrev FTab (K : PySem.W.Frag) (H : Hp) : List (Key × V) → List (Str × UF) → Prop := Tab fun v _ u => FactS K H v u
theorem FactS.same {H H' : Hp} {v : V} {u : UF} (h : FactS K H v u) (s : Same H H') : FactS K H' v u := by
  obtain ⟨t, n, x, b, a, g, e, h0, h1, h2, h3, h4, h5⟩ := h
  exact ⟨t, n, x, b, a, g, e, tup_same s h0, tup_same s h1, tup_same s h2, tup_same s h3, tup_same s h4, h5.same s⟩
theorem FactS.keep {H H' : Hp} {q : Addr} {v : V} {u : UF} (h : FactS K H v u) (k : Kp q H H') (n : NotTp H q) : FactS K H' v u := by
  obtain ⟨t, n1, x, b, a, g, e, h0, h1, h2, h3, h4, h5⟩ := h
  exact ⟨t, n1, x, b, a, g, e, k.tup n h0, k.tup n h1, k.tup n h2, k.tup n h3, k.tup n h4, h5.keep k fun xs => (n xs).1⟩
theorem FactsAt.tab {H : Hp} {kvs : List (Key × V)} {us : List (Str × UF)} (h : FactsAt H kvs us) : FTab K H kvs us := by
  induction h with
  | nil => exact .nil
  | snoc _ e ih => exact ih.app (.cons (FactAt.s e) .nil)
theorem FTab.same {H H' : Hp} {kvs : List (Key × V)} {us : List (Str × UF)} (h : FTab K H kvs us) (s : Same H H') : FTab K H' kvs us := h.imp fun _ _ _ r => FactS.same r s
theorem FTab.keep {H H' : Hp} {q : Addr} {kvs : List (Key × V)} {us : List (Str × UF)} (h : FTab K H kvs us) (k : Kp q H H') (n : NotTp H q) : FTab K H' kvs us := h.imp fun _ _ _ r => FactS.keep r k n
theorem NotTp.frz {H : Hp} {q : Addr} {o : Obj} {kvs : List (Key × V)} (h : H q = some (.frz o (.dK kvs))) : NotTp H q := fun ys => ⟨(fun e => by rw [h] at e; cases e), (fun o' e => by rw [h] at e; cases e)⟩
def sp_law_units (K : PySem.W.Frag) : Sp := fun vs H Q _ => ∃ (d : Addr) (kvs : List (Key × V)) (us : List (Str × UF)), vs = [.ref d] ∧ H d = some (.dK kvs) ∧ FTab K H kvs us ∧ Nms us ∧
  ∀ l xs H', H l = none → Same H H' → H' l = some (.lst xs) → ULs K H' xs us → Q (.ref l) H'
theorem ok_law_units (T : Txt K mg) : FnOk P w K mg base CX0 5 (He.fAd K ("_law_units", none)) T.d_law_units ["_law_facts_here"] (sp_law_units K) := by
  refine T.F_law_units.ok sc_law_units (fun vs H Q E h => ?_) (fun cdv A outer s H vs Q E hr h => ?_)
  · obtain ⟨d, kvs, us, rfl, _⟩ := h
    rfl
  · obtain ⟨d, kvs, us, rfl, hd, ht, hN, q⟩ := h
    refine ⟨_, PSs.nox (pss_one (ps_ret (pe_lock (pe_lc (own := [("_law_word", 1)]) (by rfl) sc_law_units.nd (pi_keys (pv 0)) (blkOk_by (own := [("_law_word", 1)]) (N := N_law_units) (sc := defScope s_law_units) (by decide +kernel)) (fun _ _ _ _ _ => (pg_name (i := 1) sc_law_units.nd rfl (Or.inl rfl))) (fun _ _ _ _ _ => pts_nil) (fun _ _ _ _ _ => (pe_call (ok_law_unit T) (hr.mono (by decide)) (by rfl) T.m_law_unit T.F_law_unit.kp T.b_law_unit .nil pass0 (pa_cons (pv 1) (pa_cons (pv 0) pa_nil)))))))), ?_⟩
    refine ⟨d, _, hd, trivial, fun od => ?_⟩
    generalize hE1 : upd H d _ = H1
    have wd := new_at hE1
    have m1 := mut_keep hE1
    have ht1 := FTab.keep ht m1 (.dK hd)
    refine ⟨_, rfl, d, od, rfl, .inl ⟨kvs, wd, fun D nD => ?_⟩⟩
    have few := hN.few
    have ndD : d ≠ D := ne_some wd nD
    refine lc_it walk_keys (fun i H' => Same H1 H' ∧ ∃ xs, H' D = some (.lst xs) ∧ ULs K H' xs (us.take i)) ⟨same_upd nD, [], upd_same, .nil⟩ (fun i H' _ h => h.1 _ _ wd) ?_ ?_
    · rintro i x H2 H2' hi ⟨s2, xs, w2, hU⟩ ⟨rfl, k, v, hk, rfl⟩
      obtain ⟨w, u, rfl, hu, r⟩ := ht1.at hk
      refine ⟨rfl, yes_of (iteT ?_)⟩
      obtain ⟨v', hv', r'⟩ := ht1.get hN.nd (w, u) (List.mem_of_getElem? hu)
      have hg : DGet H2' d (.str w) (some v') := by
        rw [← hv']
        exact .inl ⟨kvs, Sum.inr w, .inr ⟨od, s2 _ _ wd⟩, rfl, rfl⟩
      refine ⟨_, rfl, _, rfl, w, d, v', u, rfl, hg, FactS.same r' s2, fun p H3 np s3 hA => ?_⟩
      have w3 := s3 _ _ w2
      refine ⟨xs, w3, by rw [hU.len, List.length_take]; exact small1000 (by omega), ?_⟩
      generalize hE4 : upd H3 D _ = H4
      have m4 := mut_keep hE4
      refine ⟨Same.own (s2.trans s3) m4 nD, _, new_at hE4, ?_⟩
      rw [take_snoc hu]
      exact ((hU.same s3).keepN m4 (.lst w3) (.lst w3)).app (.cons (hA.keepN m4 (.lst w3) (.lst w3)) .nil)
    · rintro H2 ⟨s2, xs, w2, hU⟩
      rw [ht.len, List.take_length] at hU
      have wd2 := s2 _ _ wd
      refine ⟨wd2, ?_⟩
      generalize hE3 : upd H2 d _ = H3
      have m3 := mut_keep hE3
      have nlH : H D = none := by
        have : H1 D = none := nD
        rw [← hE1, upd_ne ndD.symm] at this
        exact this
      refine q D xs H3 nlH (fun c o e => ?_) (m3 _ _ w2 ndD.symm) (hU.keepN m3 (NotTp.frz wd2) fun C dx f fs z => by rw [wd2] at z; cases z)
      by_cases c0 : c = d
      · subst c0
        rw [hd] at e
        cases e
        exact new_at hE3
      · exact m3 _ _ (s2 _ _ (m1 _ _ e c0)) c0

/-! ### the facts of a law -/
theorem inV_bl (bs : List Bool) : inV (.bl true) (bs.map V.bl) = bs.any id := by
  unfold inV
  rw [List.any_map]
  congr 1
  funext b
  cases b <;> rfl
theorem bls_flat (bs : List Bool) : (bs.map V.bl).all flatV = true := by
  rw [List.all_eq_true]
  intro v hv
  obtain ⟨x, _, rfl⟩ := List.mem_map.mp hv
  rfl
/-- the facts of a law stand so -/
structure LF (K : PySem.W.Frag) (H : Hp) (d : Addr) (us : List (Str × UF)) : Prop where
  ex : ∃ kvs, H d = some (.dK kvs) ∧ FTab K H kvs us
  nms : Nms us
  few : ∀ p ∈ us, p.2.needs.length ≤ 100 ∧ p.2.after.length ≤ 100
theorem LF.same {H H' : Hp} {d : Addr} {us : List (Str × UF)} (h : LF K H d us) (s : Same H H') : LF K H' d us := by
  obtain ⟨kvs, h1, h2⟩ := h.ex
  exact ⟨⟨kvs, s _ _ h1, FTab.same h2 s⟩, h.nms, h.few⟩
theorem LF.keepL {H H' : Hp} {d q : Addr} {us : List (Str × UF)} {xs : List V} (h : LF K H d us) (k : Kp q H H') (hq : H q = some (.lst xs)) : LF K H' d us := by
  obtain ⟨kvs, h1, h2⟩ := h.ex
  exact ⟨⟨kvs, k _ _ h1 (fun e => by rw [e, hq] at h1; cases h1), FTab.keep h2 k (.lst hq)⟩, h.nms, h.few⟩
theorem LF.keepB {H H' : Hp} {d q : Addr} {us : List (Str × UF)} {n : Nat} (h : LF K H d us) (k : Kp q H H') (B : Bag n H q) : LF K H' d us := by
  obtain ⟨_, _, _, hq, _⟩ := B.ex
  exact h.keepL k hq

-- SPLIT
/-! ### rules are equal just where all five are -/

/-- what == of a rule and a thing comes to -/
def sp_Rule_eq (K : PySem.W.Frag) : Sp := fun vs H Q _ => ∃ (a : Addr) (f m t b s : Int) (y : V), vs = [.ref a, y] ∧ RuleAt K H a f m t b s ∧
  ((∃ (c : Addr) (f' m' t' b' s' : Int), y = .ref c ∧ RuleAt K H c f' m' t' b' s' ∧ Q (.bl (decide (f = f' ∧ m = m' ∧ t = t' ∧ b = b' ∧ s = s'))) H) ∨ (∃ T, UO.plainTy H K y T ∧ Q (.bl false) H) ∨ ∃ t, TyX K H y t ∧ PySem.W.kitOne K t (.ref (He.ga K "Rule")) = some false ∧ Q (.bl false) H)
theorem dec_int {i j : Int} : decide (V.int i = V.int j) = decide (i = j) := decide_eq_decide.mpr ⟨fun e => by cases e; rfl, fun e => by rw [e]⟩
theorem ok_Rule_eq (T : Txt K mg) : FnOk P w K mg base CX0 1 (He.fAd K ("Rule", some "__eq__")) T.d_Rule_eq ["self", "other"] (sp_Rule_eq K) := by
  refine T.F_Rule_eq.ok sc_Rule_eq (fun vs H Q E h => ?_) (fun cdv A outer s H vs Q E hr h => ?_)
  · obtain ⟨a, f, m, t, b, s, y, rfl, _⟩ := h
    rfl
  · obtain ⟨a, f, m, t, b, s, y, rfl, ⟨dx, ha⟩, h⟩ := h
    refine ⟨_, PSs.nox (pss_one (ps_ret (pe_mid (pe_and (pe_callB (id := "isinstance")  call_isi (by rfl) T.n_isinstance (by decide +kernel) (pa_cons (pv 1) (pa_cons (pe_glob (v := .ref (He.ga K "Rule")) (by rfl) T.m_Rule rfl) pa_nil))) (pe_and (pe_cmpR op_eq (pe_fld (pv 0) rfl) (pe_fld (pv 1) rfl) (nomark _)) (pe_and (pe_cmpR op_eq (pe_fld (pv 0) rfl) (pe_fld (pv 1) rfl) (nomark _)) (pe_and (pe_cmpR op_eq (pe_fld (pv 0) rfl) (pe_fld (pv 1) rfl) (nomark _)) (pe_and (pe_cmpR op_eq (pe_fld (pv 0) rfl) (pe_fld (pv 1) rfl) (nomark _)) (pe_one (pe_cmpR op_eq (pe_fld (pv 0) rfl) (pe_fld (pv 1) rfl) (nomark _))))))))))), ?_⟩
    rcases h with ⟨c, f', m', t', b', s', rfl, ⟨dc, hc⟩, q⟩ | ⟨Ty, pt, q⟩ | ⟨ty, tx, hk, q⟩
    · refine ⟨fun v H' => H' = H ∧ v = .bl (decide (f = f' ∧ m = m' ∧ t = t' ∧ b = b' ∧ s = s')), ?_, ?_⟩
      · refine ⟨_, rfl, _, _, _, _, true, rfl, .own _, T.ix_Rule.ty T.cl_Rule hc, UO.kit_self _ _, _, rfl, ?_⟩
        refine iteT ?_
        refine ⟨_, rfl, a, _, dx, _, _, rfl, ha, T.cl_Rule, T.na_Rule_first, rfl, _, rfl, c, _, dc, _, _, rfl, hc, T.cl_Rule, T.na_Rule_first, rfl, rfl, _, rfl, ?_⟩
        rw [dec_int]
        refine ite2 (fun h1 => ?_) (fun h1 => ?_)
        · have h1 := of_decide_eq_true h1
          refine ⟨_, rfl, a, _, dx, _, _, rfl, ha, T.cl_Rule, T.na_Rule_times, rfl, _, rfl, c, _, dc, _, _, rfl, hc, T.cl_Rule, T.na_Rule_times, rfl, rfl, _, rfl, ?_⟩
          rw [dec_int]
          refine ite2 (fun h2 => ?_) (fun h2 => ?_)
          · have h2 := of_decide_eq_true h2
            refine ⟨_, rfl, a, _, dx, _, _, rfl, ha, T.cl_Rule, T.na_Rule_top, rfl, _, rfl, c, _, dc, _, _, rfl, hc, T.cl_Rule, T.na_Rule_top, rfl, rfl, _, rfl, ?_⟩
            rw [dec_int]
            refine ite2 (fun h3 => ?_) (fun h3 => ?_)
            · have h3 := of_decide_eq_true h3
              refine ⟨_, rfl, a, _, dx, _, _, rfl, ha, T.cl_Rule, T.na_Rule_burst, rfl, _, rfl, c, _, dc, _, _, rfl, hc, T.cl_Rule, T.na_Rule_burst, rfl, rfl, _, rfl, ?_⟩
              rw [dec_int]
              refine ite2 (fun h4 => ?_) (fun h4 => ?_)
              · have h4 := of_decide_eq_true h4
                refine ⟨_, rfl, a, _, dx, _, _, rfl, ha, T.cl_Rule, T.na_Rule_span, rfl, _, rfl, c, _, dc, _, _, rfl, hc, T.cl_Rule, T.na_Rule_span, rfl, rfl, rfl, ?_⟩
                rw [dec_int]
                exact congrArg V.bl (decide_eq_decide.mpr ⟨fun z => ⟨h1, h2, h3, h4, z⟩, fun z => z.2.2.2.2⟩)
              · exact ⟨rfl, congrArg V.bl (decide_eq_false fun z => h4 (decide_eq_true z.2.2.2.1)).symm⟩
            · exact ⟨rfl, congrArg V.bl (decide_eq_false fun z => h3 (decide_eq_true z.2.2.1)).symm⟩
          · exact ⟨rfl, congrArg V.bl (decide_eq_false fun z => h2 (decide_eq_true z.2.1)).symm⟩
        · exact ⟨rfl, congrArg V.bl (decide_eq_false fun z => h1 (decide_eq_true z.1)).symm⟩
      · rintro v H' ⟨rfl, rfl⟩
        exact q
    · obtain ⟨ty, hT⟩ := UO.plain_ty pt
      refine ⟨fun v H' => H' = H ∧ v = .bl false, ?_, ?_⟩
      · refine ⟨_, rfl, _, _, _, _, false, rfl, .own _, ty, T.ix_Rule.kit _ hT, _, rfl, ?_⟩
        exact iteF ⟨rfl, rfl⟩
      · rintro v H' ⟨rfl, rfl⟩
        exact q
    · refine ⟨fun v H' => H' = H ∧ v = .bl false, ?_, ?_⟩
      · refine ⟨_, rfl, _, _, _, _, false, rfl, .own _, tx, hk, _, rfl, ?_⟩
        exact iteF ⟨rfl, rfl⟩
      · rintro v H' ⟨rfl, rfl⟩
        exact q

/-! ### units are equal just where all eight are -/
/-- all names of a unit are texts that can be laid -/
def UStr (u : UF) : Prop := ∀ x ∈ u.needs ++ u.wants ++ u.bars ++ u.after, PyData.strOk x = true
/-- what == of a unit and a thing comes to -/
def sp_Unit_eq (K : PySem.W.Frag) : Sp := fun vs H Q _ => ∃ (p : Addr) (w : Str) (u : UF) (y : V), vs = [.ref p, y] ∧ UnitAt K H p w u ∧ UStr u ∧
  ((∃ (c : Addr) (w' : Str) (u' : UF), y = .ref c ∧ UnitAt K H c w' u' ∧ UStr u' ∧ Q (.bl (decide (w = w' ∧ u = u'))) H) ∨ (∃ T, UO.plainTy H K y T ∧ Q (.bl false) H) ∨ (∃ (r : Addr) (f m t b s : Int), y = .ref r ∧ RuleAt K H r f m t b s ∧ Q (.bl false) H))
theorem ok_Unit_eq (T : Txt K mg) : FnOk P w K mg base CX0 5 (He.fAd K ("Unit", some "__eq__")) T.d_Unit_eq ["self", "other"] (sp_Unit_eq K) := by
  refine T.F_Unit_eq.ok sc_Unit_eq (fun vs H Q E h => ?_) (fun cdv A outer s H vs Q E hr h => ?_)
  · obtain ⟨p, w, u, y, rfl, _⟩ := h
    rfl
  · obtain ⟨p, w, u, y, rfl, hp, hU, h⟩ := h
    refine ⟨_, PSs.nox (pss_one (ps_ret (pe_mid (pe_and (pe_callB (id := "isinstance")  call_isi (by rfl) T.n_isinstance (by decide +kernel) (pa_cons (pv 1) (pa_cons (pe_glob (v := .ref (He.ga K "Unit")) (by rfl) T.m_Unit rfl) pa_nil))) (pe_and (pe_cmpR op_eq (pe_fld (pv 0) rfl) (pe_fld (pv 1) rfl) (nomark _)) (pe_and (pe_cmpR op_eq (pe_fld (pv 0) rfl) (pe_fld (pv 1) rfl) (nomark _)) (pe_and (pe_cmpR (op_eqD hr.units) (pe_fld (pv 0) rfl) (pe_fld (pv 1) rfl) (nomark _)) (pe_and (pe_cmpR (op_eqD hr.units) (pe_fld (pv 0) rfl) (pe_fld (pv 1) rfl) (nomark _)) (pe_and (pe_cmpR (op_eqD hr.units) (pe_fld (pv 0) rfl) (pe_fld (pv 1) rfl) (nomark _)) (pe_and (pe_cmpR (op_eqD hr.units) (pe_fld (pv 0) rfl) (pe_fld (pv 1) rfl) (nomark _)) (pe_and (pe_cmpR op_eq (pe_fld (pv 0) rfl) (pe_fld (pv 1) rfl) (nomark _)) (pe_one (pe_cmpR (UO.op_or op_eq (UO.op_or (UO.op_rc (UO.rc_left (ok_Rule_eq T) T.me_Rule_eq.at_ T.me_Rule_eq.fn T.b_Rule_eq pass0) (hr.mono (by decide))) (UO.op_rc (UO.rc_right (ok_Rule_eq T) T.me_Rule_eq.at_ T.me_Rule_eq.fn T.b_Rule_eq pass0) (hr.mono (by decide))))) (pe_fld (pv 0) rfl) (pe_fld (pv 1) rfl) (nomark _)))))))))))))), ?_⟩
    obtain ⟨dx, an, ax, ab, aa, r, hp0, hn, hx, hb, ha, hr5⟩ := hp
    rcases h with ⟨c, w', u', rfl, hc, hU', q⟩ | ⟨Ty, pt, q⟩ | ⟨r', f, m, t, b, s, rfl, ⟨dr, hr'⟩, q⟩
    · obtain ⟨dc, cn, cx, cb, ca, r', hc0, gn, gx, gb, ga, gr5⟩ := hc
      have okn : ∀ x ∈ u.needs, PyData.strOk x = true := fun x h => hU x (List.mem_append_left _ (List.mem_append_left _ (List.mem_append_left _ h)))
      have okx : ∀ x ∈ u.wants, PyData.strOk x = true := fun x h => hU x (List.mem_append_left _ (List.mem_append_left _ (List.mem_append_right _ h)))
      have okb : ∀ x ∈ u.bars, PyData.strOk x = true := fun x h => hU x (List.mem_append_left _ (List.mem_append_right _ h))
      have oka : ∀ x ∈ u.after, PyData.strOk x = true := fun x h => hU x (List.mem_append_right _ h)
      have okn' : ∀ x ∈ u'.needs, PyData.strOk x = true := fun x h => hU' x (List.mem_append_left _ (List.mem_append_left _ (List.mem_append_left _ h)))
      have okx' : ∀ x ∈ u'.wants, PyData.strOk x = true := fun x h => hU' x (List.mem_append_left _ (List.mem_append_left _ (List.mem_append_right _ h)))
      have okb' : ∀ x ∈ u'.bars, PyData.strOk x = true := fun x h => hU' x (List.mem_append_left _ (List.mem_append_right _ h))
      have oka' : ∀ x ∈ u'.after, PyData.strOk x = true := fun x h => hU' x (List.mem_append_right _ h)
      refine ⟨fun v H' => H' = H ∧ v = .bl (decide (w = w' ∧ u = u')), ?_, ?_⟩
      · refine ⟨_, rfl, _, _, _, _, true, rfl, .own _, T.ix_Unit.ty T.cl_Unit hc0, UO.kit_self _ _, _, rfl, ?_⟩
        refine iteT ?_
        refine ⟨_, rfl, p, _, dx, _, _, rfl, hp0, T.cl_Unit, T.na_Unit_name, rfl, _, rfl, c, _, dc, _, _, rfl, hc0, T.cl_Unit, T.na_Unit_name, rfl, rfl, _, rfl, ?_⟩
        rw [UW.dec_str]
        refine ite2 (fun h1 => ?_) (fun h1 => ⟨rfl, congrArg V.bl (decide_eq_false fun z => h1 (decide_eq_true z.1)).symm⟩)
        refine ⟨_, rfl, p, _, dx, _, _, rfl, hp0, T.cl_Unit, T.na_Unit_kind, rfl, _, rfl, c, _, dc, _, _, rfl, hc0, T.cl_Unit, T.na_Unit_kind, rfl, rfl, _, rfl, ?_⟩
        rw [UW.dec_str]
        refine ite2 (fun h2 => ?_) (fun h2 => ⟨rfl, congrArg V.bl (decide_eq_false fun z => h2 (decide_eq_true (congrArg UF.kind z.2))).symm⟩)
        refine ⟨_, rfl, p, _, dx, _, _, rfl, hp0, T.cl_Unit, T.na_Unit_needs, rfl, _, rfl, c, _, dc, _, _, rfl, hc0, T.cl_Unit, T.na_Unit_needs, rfl, eqD_strsT hn gn okn okn' ⟨_, rfl, ?_⟩⟩
        refine ite2 (fun h3 => ?_) (fun h3 => ⟨rfl, congrArg V.bl (decide_eq_false fun z => h3 (decide_eq_true (congrArg UF.needs z.2))).symm⟩)
        refine ⟨_, rfl, p, _, dx, _, _, rfl, hp0, T.cl_Unit, T.na_Unit_wants, rfl, _, rfl, c, _, dc, _, _, rfl, hc0, T.cl_Unit, T.na_Unit_wants, rfl, eqD_strsT hx gx okx okx' ⟨_, rfl, ?_⟩⟩
        refine ite2 (fun h4 => ?_) (fun h4 => ⟨rfl, congrArg V.bl (decide_eq_false fun z => h4 (decide_eq_true (congrArg UF.wants z.2))).symm⟩)
        refine ⟨_, rfl, p, _, dx, _, _, rfl, hp0, T.cl_Unit, T.na_Unit_bars, rfl, _, rfl, c, _, dc, _, _, rfl, hc0, T.cl_Unit, T.na_Unit_bars, rfl, eqD_strsT hb gb okb okb' ⟨_, rfl, ?_⟩⟩
        refine ite2 (fun h5 => ?_) (fun h5 => ⟨rfl, congrArg V.bl (decide_eq_false fun z => h5 (decide_eq_true (congrArg UF.bars z.2))).symm⟩)
        refine ⟨_, rfl, p, _, dx, _, _, rfl, hp0, T.cl_Unit, T.na_Unit_after, rfl, _, rfl, c, _, dc, _, _, rfl, hc0, T.cl_Unit, T.na_Unit_after, rfl, eqD_strsT ha ga oka oka' ⟨_, rfl, ?_⟩⟩
        refine ite2 (fun h6 => ?_) (fun h6 => ⟨rfl, congrArg V.bl (decide_eq_false fun z => h6 (decide_eq_true (congrArg UF.after z.2))).symm⟩)
        refine ⟨_, rfl, p, _, dx, _, _, rfl, hp0, T.cl_Unit, T.na_Unit_opens, rfl, _, rfl, c, _, dc, _, _, rfl, hc0, T.cl_Unit, T.na_Unit_opens, rfl, scal_optV _ _, _, rfl, ?_⟩
        rw [dec_optV]
        refine ite2 (fun h7 => ?_) (fun h7 => ⟨rfl, congrArg V.bl (decide_eq_false fun z => h7 (decide_eq_true (congrArg UF.opens z.2))).symm⟩)
        have hall : (w = w' ∧ u = u') ↔ u.five = u'.five := by
          refine ⟨fun z => congrArg UF.five z.2, fun z => ⟨of_decide_eq_true h1, ?_⟩⟩
          have h2 := of_decide_eq_true h2
          have h3 := of_decide_eq_true h3
          have h4 := of_decide_eq_true h4
          have h5 := of_decide_eq_true h5
          have h6 := of_decide_eq_true h6
          have h7 := of_decide_eq_true h7
          cases u
          cases u'
          cases h2
          cases h3
          cases h4
          cases h5
          cases h6
          cases h7
          cases z
          rfl
        rw [decide_eq_decide.mpr hall]
        refine ⟨_, rfl, p, _, dx, _, _, rfl, hp0, T.cl_Unit, T.na_Unit_rule, rfl, _, rfl, c, _, dc, _, _, rfl, hc0, T.cl_Unit, T.na_Unit_rule, rfl, ?_⟩
        obtain ⟨o1, ho1⟩ : ∃ o, u.five = o := ⟨_, rfl⟩
        obtain ⟨o2, ho2⟩ : ∃ o, u'.five = o := ⟨_, rfl⟩
        rcases o1 with _ | ⟨f, m, t, b, s⟩
        · rw [ho1] at hr5
          cases (show r = .non from hr5)
          rcases o2 with _ | ⟨f, m, t, b, s⟩
          · rw [ho2] at gr5
            cases (show r' = .non from gr5)
            exact .inl ⟨rfl, rfl, congrArg V.bl (decide_eq_true (ho1.trans ho2.symm)).symm⟩
          · rw [ho2] at gr5
            obtain ⟨a2, rfl, hr2⟩ := gr5
            obtain ⟨d2, hr2'⟩ := hr2
            have hne : ¬ u.five = u'.five := fun e => by rw [ho1, ho2] at e; cases e
            exact .inr (.inr ⟨a2, d2, _, "NoneType", rfl, hr2', rfl, T.ix_Rule.sub _ (by decide), a2, f, m, t, b, s, _, rfl, ⟨d2, hr2'⟩, .inr (.inl ⟨"NoneType", rfl, false, rfl, rfl, congrArg V.bl (decide_eq_false hne).symm⟩)⟩)
        · rw [ho1] at hr5
          obtain ⟨a1, rfl, hr1⟩ := hr5
          obtain ⟨d1, hr1'⟩ := hr1
          rcases o2 with _ | ⟨f', m', t', b', s'⟩
          · rw [ho2] at gr5
            cases (show r' = .non from gr5)
            have hne : ¬ u.five = u'.five := fun e => by rw [ho1, ho2] at e; cases e
            exact .inr (.inl ⟨a1, d1, _, _, rfl, hr1', .base .non, T.ix_Rule.first (by decide), a1, f, m, t, b, s, _, rfl, ⟨d1, hr1'⟩, .inr (.inl ⟨"NoneType", rfl, false, rfl, rfl, congrArg V.bl (decide_eq_false hne).symm⟩)⟩)
          · rw [ho2] at gr5
            obtain ⟨a2, rfl, hr2⟩ := gr5
            obtain ⟨d2, hr2'⟩ := hr2
            refine .inr (.inl ⟨a1, d1, _, _, rfl, hr1', T.ix_Rule.ty T.cl_Rule hr2', UO.first_self _ _, a1, f, m, t, b, s, _, rfl, ⟨d1, hr1'⟩, .inl ⟨a2, f', m', t', b', s', rfl, ⟨d2, hr2'⟩, _, rfl, rfl, congrArg V.bl (decide_eq_decide.mpr ⟨?_, ?_⟩)⟩⟩)
            · rintro ⟨rfl, rfl, rfl, rfl, rfl⟩
              exact ho1.trans ho2.symm
            · intro e
              rw [ho1, ho2] at e
              cases e
              exact ⟨rfl, rfl, rfl, rfl, rfl⟩
      · rintro v H' ⟨rfl, rfl⟩
        exact q
    · obtain ⟨ty, hT⟩ := UO.plain_ty pt
      refine ⟨fun v H' => H' = H ∧ v = .bl false, ?_, ?_⟩
      · refine ⟨_, rfl, _, _, _, _, false, rfl, .own _, ty, T.ix_Unit.kit _ hT, _, rfl, ?_⟩
        exact iteF ⟨rfl, rfl⟩
      · rintro v H' ⟨rfl, rfl⟩
        exact q
    · refine ⟨fun v H' => H' = H ∧ v = .bl false, ?_, ?_⟩
      · refine ⟨_, rfl, _, _, _, _, false, rfl, .own _, T.ix_Rule.ty T.cl_Rule hr', T.px_Rule_Unit.kit, _, rfl, ?_⟩
        exact iteF ⟨rfl, rfl⟩
      · rintro v H' ⟨rfl, rfl⟩
        exact q

theorem neU {H : Hp} {p1 p2 : Addr} {w1 w2 : Str} {u1 u2 : UF} {Q : VK} (T : Txt K mg) (h1 : UnitAt K H p1 w1 u1) (h2 : UnitAt K H p2 w2 u2) (o1 : UStr u1) (o2 : UStr u2) (q : Q (.bl (!decide (w1 = w2 ∧ u1 = u2))) H) : UO.rNeO K (He.ga K "Unit") (sp_Unit_eq K) E0 (.ref p1) (.ref p2) H Q := by
  have h1' := h1
  have h2' := h2
  obtain ⟨d1, _, _, _, _, _, e1, _⟩ := h1
  obtain ⟨d2, _, _, _, _, _, e2, _⟩ := h2
  exact ⟨p1, d1, _, _, rfl, e1, T.ix_Unit.ty T.cl_Unit e2, UO.first_self _ _, p1, w1, u1, _, rfl, h1', o1, .inl ⟨p2, w2, u2, rfl, h2', o2, _, rfl, q⟩⟩

-- SPLIT
/-! ### the kind of a refusal -/
def sp_law_kind (K : PySem.W.Frag) (a : Addr) (cls : Value) (d : Option Addr) : Sp := fun vs H Q _ => ∃ (dd : Addr) (fs : List (Str × V)), vs = [.ref a] ∧ cls = .ref (He.ga K "NoUnit") ∧ d = some dd ∧ H dd = some (.xd fs) ∧
  ∀ H', Same H H' → Q (.str (Str.ofString "unit")) H'
theorem ok_law_kind (T : Txt K mg) : UX.FnK P w K mg base CX0 1 (He.fAd K ("_law_kind", none)) T.d_law_kind ["_law_e"] (sp_law_kind K) := by
  refine UX.okK T.F_law_kind sc_law_kind (fun a cls d vs H Q E h => ?_) (fun cdv A outer s H vs Q E p hot hr h => ?_)
  · obtain ⟨dd, fs, rfl, _⟩ := h
    rfl
  · obtain ⟨dd, fs, rfl, hcls, hd, hx, q⟩ := h
    obtain ⟨_, vs, hv, _⟩ := id hot
    have hf : ∃ vs, p.2.data = .fields vs := ⟨vs, hv⟩
    refine ⟨_, PSs.nox (pss_cons (ps_set (i := 1) sc_law_kind.nd rfl (Or.inl rfl) (pe_lst (pa_cons (pe_callB (id := "isinstance")  (UX.call_isK List.mem_cons_self rfl rfl hf) (by rfl) T.n_isinstance (by decide +kernel) (pa_cons (pv 0) (pa_cons (pe_glob (v := .ref (He.ga K "NoTick")) (by rfl) T.m_NoTick rfl) pa_nil))) (pa_cons (pe_callB (id := "isinstance")  (UX.call_isK List.mem_cons_self rfl rfl hf) (by rfl) T.n_isinstance (by decide +kernel) (pa_cons (pv 0) (pa_cons (pe_glob (v := .ref (He.ga K "NotReady")) (by rfl) T.m_NotReady rfl) pa_nil))) (pa_cons (pe_callB (id := "isinstance")  (UX.call_isK List.mem_cons_self rfl rfl hf) (by rfl) T.n_isinstance (by decide +kernel) (pa_cons (pv 0) (pa_cons (pe_glob (v := .ref (He.ga K "NotBegun")) (by rfl) T.m_NotBegun rfl) pa_nil))) (pa_cons (pe_callB (id := "isinstance")  (UX.call_isK List.mem_cons_self rfl rfl hf) (by rfl) T.n_isinstance (by decide +kernel) (pa_cons (pv 0) (pa_cons (pe_glob (v := .ref (He.ga K "NotOn")) (by rfl) T.m_NotOn rfl) pa_nil))) pa_nil))))))
      (pss_cons (ps_set (i := 1) sc_law_kind.nd rfl (Or.inl rfl) (pe_op op_cat (pv 1) (pe_lst (pa_cons (pe_callB (id := "isinstance")  (UX.call_isK List.mem_cons_self rfl rfl hf) (by rfl) T.n_isinstance (by decide +kernel) (pa_cons (pv 0) (pa_cons (pe_glob (v := .ref (He.ga K "Running")) (by rfl) T.m_Running rfl) pa_nil))) (pa_cons (pe_callB (id := "isinstance")  (UX.call_isK List.mem_cons_self rfl rfl hf) (by rfl) T.n_isinstance (by decide +kernel) (pa_cons (pv 0) (pa_cons (pe_glob (v := .ref (He.ga K "NoDoor")) (by rfl) T.m_NoDoor rfl) pa_nil))) (pa_cons (pe_callB (id := "isinstance")  (UX.call_isK List.mem_cons_self rfl rfl hf) (by rfl) T.n_isinstance (by decide +kernel) (pa_cons (pv 0) (pa_cons (pe_glob (v := .ref (He.ga K "Full")) (by rfl) T.m_Full rfl) pa_nil))) (pa_cons (pe_callB (id := "isinstance")  (UX.call_isK List.mem_cons_self rfl rfl hf) (by rfl) T.n_isinstance (by decide +kernel) (pa_cons (pv 0) (pa_cons (pe_glob (v := .ref (He.ga K "NoText")) (by rfl) T.m_NoText rfl) pa_nil))) pa_nil)))))))
      (pss_cons (ps_set (i := 1) sc_law_kind.nd rfl (Or.inl rfl) (pe_op op_cat (pv 1) (pe_lst (pa_cons (pe_callB (id := "isinstance")  (UX.call_isK List.mem_cons_self rfl rfl hf) (by rfl) T.n_isinstance (by decide +kernel) (pa_cons (pv 0) (pa_cons (pe_glob (v := .ref (He.ga K "NoRow")) (by rfl) T.m_NoRow rfl) pa_nil))) (pa_cons (pe_callB (id := "isinstance")  (UX.call_isK List.mem_cons_self rfl rfl hf) (by rfl) T.n_isinstance (by decide +kernel) (pa_cons (pv 0) (pa_cons (pe_glob (v := .ref (He.ga K "Lack")) (by rfl) T.m_Lack rfl) pa_nil))) (pa_cons (pe_callB (id := "isinstance")  (UX.call_isK List.mem_cons_self rfl rfl hf) (by rfl) T.n_isinstance (by decide +kernel) (pa_cons (pv 0) (pa_cons (pe_glob (v := .ref (He.ga K "Clash")) (by rfl) T.m_Clash rfl) pa_nil))) (pa_cons (pe_callB (id := "isinstance")  (UX.call_isK List.mem_cons_self rfl rfl hf) (by rfl) T.n_isinstance (by decide +kernel) (pa_cons (pv 0) (pa_cons (pe_glob (v := .ref (He.ga K "Knot")) (by rfl) T.m_Knot rfl) pa_nil))) pa_nil)))))))
      (pss_cons (ps_set (i := 1) sc_law_kind.nd rfl (Or.inl rfl) (pe_op op_cat (pv 1) (pe_lst (pa_cons (pe_callB (id := "isinstance")  (UX.call_isK List.mem_cons_self rfl rfl hf) (by rfl) T.n_isinstance (by decide +kernel) (pa_cons (pv 0) (pa_cons (pe_glob (v := .ref (He.ga K "NoUnit")) (by rfl) T.m_NoUnit rfl) pa_nil))) (pa_cons (pe_callB (id := "isinstance")  (UX.call_isK List.mem_cons_self rfl rfl hf) (by rfl) T.n_isinstance (by decide +kernel) (pa_cons (pv 0) (pa_cons (pe_glob (v := .ref (He.ga K "NoShelf")) (by rfl) T.m_NoShelf rfl) pa_nil))) pa_nil)))))
      (pss_cons (ps_set (i := 2) sc_law_kind.nd rfl (Or.inl rfl) (pe_lst (pa_cons pe_str (pa_cons pe_str (pa_cons pe_str (pa_cons pe_str (pa_cons pe_str (pa_cons pe_str (pa_cons pe_str (pa_cons pe_str (pa_cons pe_str (pa_cons pe_str (pa_cons pe_str (pa_cons pe_str pa_nil))))))))))))))
      (pss_cons (ps_set (i := 2) sc_law_kind.nd rfl (Or.inl rfl) (pe_op op_cat (pv 2) (pe_lst (pa_cons pe_str (pa_cons pe_str pa_nil)))))
      (pss_cons (ps_if (pt_cmpR op_ne (pe_bm PySem.F.plainAttrs_list PySem.F.slot_list_count PySem.F.type_list_count UX.mt_cntF (pv 1) (pa_cons pe_bl pa_nil)) pe_int (nomark _))
      (pss_one (ps_ret pe_str))
      pss_nil)
      (pss_cons (ps_set (i := 3) sc_law_kind.nd rfl (Or.inl rfl) (pe_callB (id := "isinstance")  (UX.call_isK List.mem_cons_self rfl rfl hf) (by rfl) T.n_isinstance (by decide +kernel) (pa_cons (pv 0) (pa_cons (pe_glob (v := .ref (He.ga K "UnitError")) (by rfl) T.m_UnitError rfl) pa_nil))))
      (pss_cons (ps_if (PW.pt (pw_or (pt_cmpR op_ne (pv 3) (pe_cmpR op_lt (pe_bm PySem.F.plainAttrs_list PySem.F.slot_list_index PySem.F.type_list_index mt_index (pv 1) (pa_cons pe_bl pa_nil)) pe_int (nomark _)) (nomark _)) (pw_or1 (pt_cmpR op_ne (pe_callB (id := "isinstance")  (UX.call_isK List.mem_cons_self rfl rfl hf) (by rfl) T.n_isinstance (by decide +kernel) (pa_cons (pv 0) (pa_cons (pe_bltn (v := .ty "ValueError") (u := .type "ValueError") (by rfl) T.n_ValueError (by decide +kernel) rfl) pa_nil))) (pv 3) (nomark _)))))
      (pss_one (ps_ret pe_str))
      pss_nil)
      (pss_one (ps_ret (pe_ix ix_list (pv 2) (pe_bm PySem.F.plainAttrs_list PySem.F.slot_list_index PySem.F.type_list_index mt_index (pv 1) (pa_cons pe_bl pa_nil)) (fun _ _ => rfl))))))))))))), ?_⟩
    have lo : ∀ {n : Nat}, n ≤ 1000 → n ≤ sizeLine := fun h => Nat.le_of_lt (small1000 h)
    refine ⟨_, rfl, _, _, _, _, dd, fs, hcls, rfl, T.ax_NoUnit.is, (fun _ h => h), T.kx_NoUnit_NoTick, hd, hx, _, rfl, _, _, _, _, dd, fs, hcls, rfl, T.ax_NoUnit.is, (fun _ h => h), T.kx_NoUnit_NotReady, hd, hx, _, rfl, _, _, _, _, dd, fs, hcls, rfl, T.ax_NoUnit.is, (fun _ h => h), T.kx_NoUnit_NotBegun, hd, hx, _, rfl, _, _, _, _, dd, fs, hcls, rfl, T.ax_NoUnit.is, (fun _ h => h), T.kx_NoUnit_NotOn, hd, hx, lo (by show 4 ≤ 1000; decide), fun l1 n1 => ?_⟩
    generalize hE1 : upd H l1 _ = H1
    have w1 := new_at hE1
    have s1 := new_same hE1 n1
    refine ⟨_, rfl, _, rfl, _, _, _, _, dd, fs, hcls, rfl, T.ax_NoUnit.is, (fun _ h => h), T.kx_NoUnit_Running, hd, (s1 _ _ hx), _, rfl, _, _, _, _, dd, fs, hcls, rfl, T.ax_NoUnit.is, (fun _ h => h), T.kx_NoUnit_NoDoor, hd, (s1 _ _ hx), _, rfl, _, _, _, _, dd, fs, hcls, rfl, T.ax_NoUnit.is, (fun _ h => h), T.kx_NoUnit_Full, hd, (s1 _ _ hx), _, rfl, _, _, _, _, dd, fs, hcls, rfl, T.ax_NoUnit.is, (fun _ h => h), T.kx_NoUnit_NoText, hd, (s1 _ _ hx), lo (by show 4 ≤ 1000; decide), fun m2 nm2 => ?_⟩
    generalize hF2 : upd H1 m2 _ = G2
    have v2 := new_at hF2
    have t2 := new_same hF2 nm2
    refine ⟨l1, m2, _, _, rfl, rfl, t2 _ _ w1, v2, lo (by show 8 ≤ 1000; decide), fun l2 n2 => ?_⟩
    generalize hE2 : upd G2 l2 _ = H2
    have w2 := new_at hE2
    have s2 := (s1.trans t2).trans (new_same hE2 n2)
    refine ⟨_, rfl, _, rfl, _, _, _, _, dd, fs, hcls, rfl, T.ax_NoUnit.is, (fun _ h => h), T.kx_NoUnit_NoRow, hd, (s2 _ _ hx), _, rfl, _, _, _, _, dd, fs, hcls, rfl, T.ax_NoUnit.is, (fun _ h => h), T.kx_NoUnit_Lack, hd, (s2 _ _ hx), _, rfl, _, _, _, _, dd, fs, hcls, rfl, T.ax_NoUnit.is, (fun _ h => h), T.kx_NoUnit_Clash, hd, (s2 _ _ hx), _, rfl, _, _, _, _, dd, fs, hcls, rfl, T.ax_NoUnit.is, (fun _ h => h), T.kx_NoUnit_Knot, hd, (s2 _ _ hx), lo (by show 4 ≤ 1000; decide), fun m3 nm3 => ?_⟩
    generalize hF3 : upd H2 m3 _ = G3
    have v3 := new_at hF3
    have t3 := new_same hF3 nm3
    refine ⟨l2, m3, _, _, rfl, rfl, t3 _ _ w2, v3, lo (by show 12 ≤ 1000; decide), fun l3 n3 => ?_⟩
    generalize hE3 : upd G3 l3 _ = H3
    have w3 := new_at hE3
    have s3 := (s2.trans t3).trans (new_same hE3 n3)
    refine ⟨_, rfl, _, rfl, _, _, _, _, dd, fs, hcls, rfl, T.ax_NoUnit.is, (fun _ h => h), T.kx_NoUnit_NoUnit, hd, (s3 _ _ hx), _, rfl, _, _, _, _, dd, fs, hcls, rfl, T.ax_NoUnit.is, (fun _ h => h), T.kx_NoUnit_NoShelf, hd, (s3 _ _ hx), lo (by show 2 ≤ 1000; decide), fun m4 nm4 => ?_⟩
    generalize hF4 : upd H3 m4 _ = G4
    have v4 := new_at hF4
    have t4 := new_same hF4 nm4
    refine ⟨l3, m4, _, _, rfl, rfl, t4 _ _ w3, v4, lo (by show 14 ≤ 1000; decide), fun l4 n4 => ?_⟩
    generalize hE4 : upd G4 l4 _ = H4
    have w4 := new_at hE4
    have s4 := (s3.trans t4).trans (new_same hE4 n4)
    refine ⟨lo (by show 12 ≤ 1000; decide), fun e1 ne1 => ?_⟩
    generalize hE5 : upd H4 e1 _ = H5
    have w5 := new_at hE5
    have s5 := new_same hE5 ne1
    refine ⟨_, rfl, lo (by show 2 ≤ 1000; decide), fun e2 ne2 => ?_⟩
    generalize hE6 : upd H5 e2 _ = H6
    have w6 := new_at hE6
    have s6 := new_same hE6 ne2
    refine ⟨e1, e2, _, _, rfl, rfl, s6 _ _ w5, w6, lo (by show 14 ≤ 1000; decide), fun e3 ne3 => ?_⟩
    generalize hE7 : upd H6 e3 _ = H7
    have w7 := new_at hE7
    have s7 := (s5.trans s6).trans (new_same hE7 ne3)
    have w47 := s7 _ _ w4
    have hx7 := s7 _ _ (s4 _ _ hx)
    have flat : ([V.bl false, .bl false, .bl false, .bl false, .bl false, .bl false, .bl false, .bl false, .bl false, .bl false, .bl false, .bl false, .bl true, .bl false] : List V).all flatV = true := rfl
    have early : ∀ m, m < 12 → ([V.bl false, .bl false, .bl false, .bl false, .bl false, .bl false, .bl false, .bl false, .bl false, .bl false, .bl false, .bl false, .bl true, .bl false] : List V)[m]? = some (.bl false) := by decide
    have no : ∀ (m : Nat) (z' : V), m < 12 → ([V.bl false, .bl false, .bl false, .bl false, .bl false, .bl false, .bl false, .bl false, .bl false, .bl false, .bl false, .bl false, .bl true, .bl false] : List V)[m]? = some z' → eqV z' (.bl true) = false := fun m z' hm e => by
      rw [early m hm] at e
      cases e
      rfl
    refine ⟨_, rfl, .inl ⟨rfl, _, SqL.of w47⟩, l4, _, _, rfl, rfl, SqL.of w47, rfl, flat, rfl, _, rfl, iteF ?_⟩
    refine ⟨_, rfl, _, _, _, _, dd, fs, hcls, rfl, T.ax_NoUnit.is, (fun _ h => h), T.kx_NoUnit_UnitError, hd, hx7, ?_⟩
    refine ⟨_, rfl, _, rfl, .inl ⟨rfl, _, SqL.of w47⟩, l4, _, _, 12, .bl true, rfl, rfl, SqL.of w47, rfl, flat, rfl, rfl, no, _, _, rfl, rfl, rfl, _, rfl, iteF ?_⟩
    refine ⟨_, rfl, _, _, _, _, dd, fs, hcls, rfl, T.ax_NoUnit.is, (fun _ h => h), T.kx_NoUnit_ValueError, hd, hx7, _, rfl, rfl, _, rfl, iteF ?_⟩
    refine ⟨_, rfl, _, rfl, .inl ⟨rfl, _, SqL.of w47⟩, l4, _, _, 12, .bl true, rfl, rfl, SqL.of w47, rfl, flat, rfl, rfl, no, e3, _, _, _, rfl, rfl, SqL.of w7, rfl, ?_⟩
    exact q H7 (s4.trans s7)

-- SPLIT
/-! ### texts of plain signs -/
def Asc (x : Str) : Prop := ∀ c ∈ x.cps.toList, c < 128
theorem Asc.app {x y : Str} (h : Asc x) (g : Asc y) : Asc (x ++ y) := fun c hc => by
  rw [show (x ++ y).cps = x.cps ++ y.cps from rfl, Array.toList_append] at hc
  rcases List.mem_append.mp hc with hc | hc
  · exact h c hc
  · exact g c hc
theorem Asc.ok {x : Str} (h : Asc x) : PyData.strOk x = true := by
  unfold PyData.strOk
  rw [Array.all_eq_true]
  intro i hi
  have := h x.cps[i] (by rw [Array.mem_toList_iff]; exact Array.getElem_mem hi)
  exact decide_eq_true (by omega)
theorem Asc.flat {x : Str} (h : Asc x) : UE.Flat (.str x) (10 * x.length + 2) := .str fun c hc => Nat.lt_trans (h c hc) (by decide)
theorem nm_asc {x : Str} (h : Nm x) : Asc x := fun c hc => Nat.lt_of_le_of_lt (h.1 c hc).2 (by decide)
theorem chars_asc : ∀ c < 128, ∀ q ∈ [34, 39], ∀ y ∈ PySem.Builtin.Str.reprChar q c, y < 128 := by decide +kernel
theorem asc_repr {x : Str} (h : Asc x) : Asc (reprText x) := by
  have hq : reprQuote x ∈ [34, 39] := by
    unfold reprQuote
    split
    · exact List.mem_cons_self ..
    · exact List.mem_cons_of_mem _ (List.mem_cons_self ..)
  have q128 : reprQuote x < 128 := by
    have := hq
    simp only [List.mem_cons, List.not_mem_nil, or_false] at this
    omega
  have go : ∀ (l : List Nat) (acc : Array Nat), (∀ c ∈ l, c < 128) → (∀ c ∈ acc.toList, c < 128) → ∀ c ∈ (l.foldl (fun out c => out ++ (PySem.Builtin.Str.reprChar (reprQuote x) c).toArray) acc).toList, c < 128 := by
    intro l
    induction l with
    | nil => exact fun acc _ h => h
    | cons d l ih =>
      intro acc h1 h2
      refine ih _ (fun c hc => h1 c (List.mem_cons_of_mem _ hc)) fun c hc => ?_
      rw [Array.toList_append] at hc
      rcases List.mem_append.mp hc with hc | hc
      · exact h2 c hc
      · exact chars_asc d (h1 d (List.mem_cons_self ..)) _ hq c hc
  intro c hc
  unfold reprText at hc
  rw [show ((⟨(x.cps.foldl (fun out c => out ++ (PySem.Builtin.Str.reprChar (reprQuote x) c).toArray) #[reprQuote x]).push (reprQuote x)⟩ : Str)).cps = (x.cps.foldl (fun out c => out ++ (PySem.Builtin.Str.reprChar (reprQuote x) c).toArray) #[reprQuote x]).push (reprQuote x) from rfl, Array.toList_push, ← Array.foldl_toList] at hc
  rcases List.mem_append.mp hc with hc | hc
  · exact go _ _ h (fun c hc => by rw [List.mem_singleton.mp (show c ∈ [reprQuote x] from hc)]; exact q128) c hc
  · rw [List.mem_singleton.mp hc]
    exact q128
theorem asc_join {s : Str} (hs : Asc s) : ∀ {ts : List Str}, (∀ t ∈ ts, Asc t) → Asc (Str.join s ts)
  | [], _ => fun c hc => by simp [Str.join, Str.empty] at hc
  | [x], h => h x (List.mem_cons_self ..)
  | x :: y :: r, h => ((h x (List.mem_cons_self ..)).app hs).app (asc_join hs (ts := y :: r) fun t ht => h t (List.mem_cons_of_mem _ ht))
theorem asc_from : ∀ {ts : List Str} {k : Nat} {acc : Str}, Asc acc → (∀ t ∈ ts, Asc t) → Asc (textFrom k acc ts)
  | [], _, _, ha, _ => ha
  | t :: ts, k, acc, ha, h => by
    unfold textFrom
    refine asc_from ?_ fun t ht => h t (List.mem_cons_of_mem _ ht)
    have two : Asc (", " : Str) := by unfold Asc; decide +kernel
    split
    · exact (ha.app two).app (h t (List.mem_cons_self ..))
    · exact ha.app (h t (List.mem_cons_self ..))
inductive AscD : PyData → Prop
  | non : AscD .none
  | bl (b : Bool) : AscD (.bool b)
  | int {i : Int} (h : Asc (Str.ofString (toString i))) : AscD (.int i)
  | str {x : Str} (h : Asc x) : AscD (.str x)
  | lst {ds : List PyData} (h : ∀ d ∈ ds, AscD d) : AscD (.list ds)
  | tup {ds : List PyData} (h : ∀ d ∈ ds, AscD d) : AscD (.tuple ds)
theorem shownAll_map : ∀ ds : List PyData, PyData.shownAll ds = ds.map PyData.shown
  | [] => rfl
  | d :: ds => by
    show d.shown :: PyData.shownAll ds = _
    rw [shownAll_map ds]
    rfl
theorem asc_shown {d : PyData} (h : AscD d) : Asc d.shown := by
  induction h with
  | non => show Asc "None"; unfold Asc; decide +kernel
  | bl b => cases b <;> (show Asc _; unfold Asc; decide +kernel)
  | int h => exact h
  | str h => exact asc_repr h
  | @lst ds _ ih =>
    show Asc (textFrom 0 "[" (PyData.shownAll ds) ++ "]")
    rw [shownAll_map]
    refine (asc_from (by unfold Asc; decide +kernel) fun t ht => ?_).app (by unfold Asc; decide +kernel)
    obtain ⟨d, hd, rfl⟩ := List.mem_map.mp ht
    exact ih d hd
  | @tup ds _ ih =>
    show Asc (tupleText (PyData.shownAll ds))
    unfold tupleText
    rw [shownAll_map]
    refine ((show Asc ("(" : Str) by unfold Asc; decide +kernel).app (asc_join (by unfold Asc; decide +kernel) fun t ht => ?_)).app ?_
    · obtain ⟨d, hd, rfl⟩ := List.mem_map.mp ht
      exact ih d hd
    · split <;> (unfold Asc; decide +kernel)

-- SPLIT
/-- any of some things: what it is, without the bag -/
def AnyAt (K : PySem.W.Frag) (H : Hp) (p : Addr) (v : V) (d : PyData) : Prop := Dp K (del H p) v d ∧ ∃ n, UE.Odd d n ∧ n ≤ 100
theorem del_kp {H H' : Hp} {p : Addr} (k : Kp p H H') : Same (del H p) (del H' p) := fun b o e => by
  by_cases c : b = p
  · subst c
    rw [del_same] at e
    cases e
  · rw [del_ne c] at e ⊢
    exact k _ _ e c
theorem del_sub {H : Hp} {p : Addr} : Same (del H p) H := fun b o e => by
  by_cases c : b = p
  · subst c
    rw [del_same] at e
    cases e
  · rw [del_ne c] at e
    exact e
def sp_law_any (K : PySem.W.Frag) : Sp := fun vs H Q _ => ∃ (p : Addr) (n : Nat), vs = [.ref p] ∧ Bag n H p ∧ n < 700000000 ∧
  ∀ (v : V) (d : PyData) H', AnyAt K H' p v d → AscD d → (∀ x, Nm x → d ≠ .str x) → Bag (n + 1) H' p → Kp p H H' → Q v H'
theorem ok_law_any (T : Txt K mg) : FnOk P w K mg base CX0 2 (He.fAd K ("_law_any", none)) T.d_law_any ["_law_bag_here"] (sp_law_any K) := by
  refine T.F_law_any.ok sc_law_any (fun vs H Q E h => ?_) (fun cdv A outer s H vs Q E hr h => ?_)
  · obtain ⟨p, n, rfl, _⟩ := h
    rfl
  · obtain ⟨p, n, rfl, B, hn, q⟩ := h
    refine ⟨_, PSs.nox (pss_one (ps_ret (pe_ix ix_list (pe_lst (pa_cons pe_non (pa_cons pe_bl (pa_cons pe_bl (pa_cons pe_int (pa_cons (pe_un un_neg pe_int) (pa_cons (pe_op op_powL pe_int pe_int) (pa_cons pe_str (pa_cons pe_str (pa_cons pe_str (pa_cons (pe_tup (pa_cons pe_int pa_nil)) (pa_cons (pe_lst (pa_cons pe_str pa_nil)) (pa_cons (pe_tup pa_nil) (pa_cons (pe_lst pa_nil) (pa_cons (pe_tup (pa_cons pe_non (pa_cons (pe_lst (pa_cons pe_int pa_nil)) pa_nil))) pa_nil))))))))))))))) (pe_call (ok_law_take T) (hr.mono (by decide)) (by rfl) T.m_law_take T.F_law_take.kp T.b_law_take .nil pass0 (pa_cons (pv 0) (pa_cons pe_int pa_nil))) (fun _ _ => rfl)))), ?_⟩
    refine ⟨1, rfl, 10, 20, rfl, rfl, pow10, by show 1 ≤ sizeLine; decide, fun t1 n1 => ?_⟩
    generalize hE1 : upd H t1 _ = H1
    have w1 := new_at hE1
    have s1 := new_same hE1 n1
    refine ⟨by show 1 ≤ sizeLine; decide, fun t2 n2 => ?_⟩
    generalize hE2 : upd H1 t2 _ = H2
    have w2 := new_at hE2
    have s2 := new_same hE2 n2
    refine ⟨by show 0 ≤ sizeLine; decide, fun t3 n3 => ?_⟩
    generalize hE3 : upd H2 t3 _ = H3
    have w3 := new_at hE3
    have s3 := new_same hE3 n3
    refine ⟨by show 0 ≤ sizeLine; decide, fun t4 n4 => ?_⟩
    generalize hE4 : upd H3 t4 _ = H4
    have w4 := new_at hE4
    have s4 := new_same hE4 n4
    refine ⟨by show 1 ≤ sizeLine; decide, fun t5 n5 => ?_⟩
    generalize hE5 : upd H4 t5 _ = H5
    have w5 := new_at hE5
    have s5 := new_same hE5 n5
    refine ⟨by show 2 ≤ sizeLine; decide, fun t6 n6 => ?_⟩
    generalize hE6 : upd H5 t6 _ = H6
    have w6 := new_at hE6
    have s6 := new_same hE6 n6
    have s46 := (s5.trans s6)
    have s36 := s4.trans s46
    have s26 := s3.trans s36
    have s16 := s2.trans s26
    have B6 := B.same (s1.trans s16)
    refine ⟨by show 14 ≤ sizeLine; decide, fun l nl => ⟨_, rfl, ?_⟩⟩
    refine pick_menu _ B6 (by omega) nl rfl (by show 0 < 14; decide) (by show 14 < 1000; decide) fun z H7 hz B7 k7 => ?_
    have nt : ∀ {t : Addr} {z : List V}, H6 t = some (.tup z) → t ≠ p := fun h e => by
      rw [e] at h
      exact B6.notTup _ h
    have ntl : ∀ {t : Addr} {z : List V}, H6 t = some (.lst z) → H t = none → t ≠ p := fun h nt e => by
      obtain ⟨o, ho⟩ := B.some
      rw [e, ho] at nt
      cases nt
    have at7 : ∀ {t : Addr} {o : HO}, t ≠ p → H6 t = some o → (del H7 p) t = some o := fun n e => (del_ne n).trans (k7 _ _ e n)
    have sA := (s1.trans s16)
    have h1 : (del H7 p) t1 = _ := at7 (nt (s16 _ _ w1)) (s16 _ _ w1)
    have h2 : (del H7 p) t2 = _ := at7 (ntl (s26 _ _ w2) (s1.free n2)) (s26 _ _ w2)
    have h3 : (del H7 p) t3 = _ := at7 (nt (s36 _ _ w3)) (s36 _ _ w3)
    have h4 : (del H7 p) t4 = _ := at7 (ntl (s46 _ _ w4) ((s1.trans (s2.trans s3)).free n4)) (s46 _ _ w4)
    have h5 : (del H7 p) t5 = _ := at7 (ntl (s6 _ _ w5) ((s1.trans (s2.trans (s3.trans s4))).free n5)) (s6 _ _ w5)
    have h6 : (del H7 p) t6 = _ := at7 (nt w6) w6
    have go : ∀ {d : PyData} {n : Nat}, Dp K (del H7 p) z d → UE.Odd d n → n ≤ 100 → AscD d → (∀ x, Nm x → d ≠ .str x) → Q z H7 := fun {d n} a b c asc no => q z d H7 ⟨a, n, b, c⟩ asc no (B7.le (by omega)) ((Kp.of sA).trans k7)
    have int0 : UE.Flat (.int 0) 61 := .int (by decide)
    simp only [List.mem_cons, List.not_mem_nil, or_false] at hz
    rcases hz with rfl | rfl | rfl | rfl | rfl | rfl | rfl | rfl | rfl | rfl | rfl | rfl | rfl | rfl
    · exact go .non (.low (.flat .non)) (by decide) .non (fun _ _ z => nomatch z)
    · exact go (.bl _) (.low (.flat (.bl _))) (by decide) (.bl _) (fun _ _ z => nomatch z)
    · exact go (.bl _) (.low (.flat (.bl _))) (by decide) (.bl _) (fun _ _ z => nomatch z)
    · exact go (.int _) (.low (.flat int0)) (by decide) (.int (by unfold Asc; decide +kernel)) (fun _ _ z => nomatch z)
    · exact go (.int _) (.low (.flat (.int (by decide)))) (by decide) (.int (by unfold Asc; decide +kernel)) (fun _ _ z => nomatch z)
    · exact go (.int _) (.low (.flat (.int (by decide)))) (by decide) (.int (by unfold Asc; decide +kernel)) (fun _ _ z => nomatch z)
    · exact go (.str _) (.low (.flat (.str (by decide +kernel)))) (by decide +kernel) (.str (by unfold Asc; decide +kernel)) (fun x h z => by injection z with z; have := h.2.1; rw [← z] at this; exact absurd this (by decide +kernel))
    · exact go (.str _) (.low (.flat (.str (by decide +kernel)))) (by decide +kernel) (.str (by unfold Asc; decide +kernel)) (fun x h z => by injection z with z; have := (h.1 65 (by rw [← z]; decide +kernel)).1; omega)
    · exact go (.str _) (.low (.flat (.str (by decide +kernel)))) (by decide +kernel) (.str (by unfold Asc; decide +kernel)) (fun x h z => by injection z with z; have := (h.1 32 (by rw [← z]; decide +kernel)).1; omega)
    · exact go (.tup (SqT.of h1) (.cons (.int _) .nil)) (.tup (.cons (.flat (.int (i := 1) (by decide))) .nil)) (by decide) (.tup fun d hd => by rw [List.mem_singleton.mp hd]; exact .int (by unfold Asc; decide +kernel)) (fun _ _ z => nomatch z)
    · exact go (.lst (SqL.of h2) (.cons (.str _) .nil)) (.low (.lst (.cons (.str (by decide +kernel)) .nil))) (by decide +kernel) (.lst fun d hd => by rw [List.mem_singleton.mp hd]; exact .str (by unfold Asc; decide +kernel)) (fun _ _ z => nomatch z)
    · exact go (.tup (SqT.of h3) .nil) (.tup .nil) (by decide) (.tup fun d hd => nomatch hd) (fun _ _ z => nomatch z)
    · exact go (.lst (SqL.of h4) .nil) (.low (.lst .nil)) (by decide) (.lst fun d hd => nomatch hd) (fun _ _ z => nomatch z)
    · exact go (.tup (SqT.of h6) (.cons .non (.cons (.lst (SqL.of h5) (.cons (.int _) .nil)) .nil))) (.tup (.cons (.flat .non) (.cons (.lst (.cons int0 .nil)) .nil))) (by decide) (.tup fun d hd => by rcases List.mem_cons.mp hd with rfl | hd; exact .non; rw [List.mem_singleton.mp hd]; exact .lst fun e he => by rw [List.mem_singleton.mp he]; exact .int (by unfold Asc; decide +kernel)) (fun _ _ z => nomatch z)

-- SPLIT
/-! ### how a thing that is no name is refused -/
def sp_law_how (K : PySem.W.Frag) : Sp := fun vs H Q _ => ∃ (p : Addr) (v : V) (d : PyData) (n i : Nat) (us : List (Str × UF)), vs = [.ref p, .int i, v] ∧ i < 4 ∧ ShelfAt K H p us ∧ Nms us ∧ NoName K H us v d n ∧
  ∀ t H', Same H H' → H' t = some (.tup [.str (Str.ofString "unit"), .str d.shown, .bl true]) → Q (.ref t) H'
theorem decN (i k : Nat) : decide (V.int (i : Int) = V.int (k : Int)) = decide (i = k) := by
  by_cases c : i = k
  · rw [c, decide_eq_true rfl, decide_eq_true rfl]
  · rw [decide_eq_false c, decide_eq_false fun z => c (by injection z with z; omega)]
theorem ok_law_how (T : Txt K mg) : UG.FnG P w K mg base CX0 8 (He.fAd K ("_law_how", none)) T.d_law_how ["_law_shelf", "_law_door", "_law_odd"] (sp_law_how K) := by
  refine UG.okG T.F_law_how sc_law_how (fun vs H Q E h => ?_) (fun cdv A outer s H vs Q E hg hr h => ?_)
  · obtain ⟨p, v, d, n, i, us, rfl, _⟩ := h
    rfl
  · obtain ⟨p, v, d, n, i, us, rfl, hi, hS, hN, no, q⟩ := h
    refine ⟨_, PSs.nox (pss_cons (L2N.ps_try_as rfl rfl sc_law_how.nd (i := 3) rfl rfl ⟨by rfl, by decide, .inl T.m_NoUnit⟩ UX.takes0
      (fun W pn xe tk own => (pss_one (ps_if (pt_cmpR op_eq (pv 1) pe_int (nomark _))
      (pss_one (ps_expr (UX.pe_methX (pv 0) T.cl_Shelf T.me_Shelf_unit (ok_Shelf_unit T) (hr.mono (by decide)) T.b_Shelf_unit tk (pa_cons (pv 2) pa_nil))))
      (pss_one (ps_if (pt_cmpR op_eq (pv 1) pe_int (nomark _))
      (pss_one (ps_expr (UX.pe_methX (pv 0) T.cl_Shelf T.me_Shelf_needing (ok_Shelf_needing T) (hr.mono (by decide)) T.b_Shelf_needing tk (pa_cons (pv 2) pa_nil))))
      (pss_one (ps_if (pt_cmpR op_eq (pv 1) pe_int (nomark _))
      (pss_one (ps_expr (UX.pe_methX (pv 0) T.cl_Shelf T.me_Shelf_barred (ok_Shelf_barred T) (hr.mono (by decide)) T.b_Shelf_barred tk (pa_cons (pv 2) pa_nil))))
      (pss_one (ps_expr (UX.pe_methX (pv 0) T.cl_Shelf T.me_Shelf_waited (ok_Shelf_waited T) (hr.mono (by decide)) T.b_Shelf_waited tk (pa_cons (pv 2) pa_nil)))))))))))
      (fun a oe cls d pn hz hf => (pss_one (ps_ret (pe_tup (pa_cons (UX.pe_callK (ok_law_kind T) (L2H.roomH_mark (hr.mono (by decide)) _) (UX.hot1 hz hf) List.mem_cons_self hz (by rfl) T.m_law_kind T.F_law_kind.kp T.b_law_kind pass0 (pa_cons (pv 3) pa_nil)) (pa_cons (pe_callB (id := "repr")  (r := UQ.rReprO K) (UQ.cr_reprO hg (UQ.un66H (L2H.roomH_mark hr _))) (by rfl) T.n_repr (by decide +kernel) (pa_cons (pe_xf T.ax_NoUnit.fld T.oa_NoUnit_name hz.zc hf (pv 3)) pa_nil)) (pa_cons (pe_callB (id := "isinstance")  (r := UX.rIsK K a cls d) (UX.call_isK List.mem_cons_self hz.1 hz.2.1 hf) (by rfl) T.n_isinstance (by decide +kernel) (pa_cons (pv 3) (pa_cons (pe_bltn (v := .ty "KeyError") (u := .type "KeyError") (by rfl) T.n_KeyError (by decide +kernel) rfl) pa_nil))) pa_nil))))))))
      (pss_one (ps_ret (pe_tup pa_nil)))), ?_⟩
    obtain ⟨dx, D, kvs, hp, _⟩ := id hS
    have k0 : (V.int (0 : Int)) = V.int ((0 : Nat) : Int) := rfl
    have k1 : (V.int (1 : Int)) = V.int ((1 : Nat) : Int) := rfl
    have k2 : (V.int (2 : Int)) = V.int ((2 : Nat) : Int) := rfl
    have step : ∀ {B : Bool} {Y N : Prop}, Y → N → if B = true then Y else N := fun {B} {Y N} y n => by
      cases B
      · exact n
      · exact y
    refine ⟨_, rfl, rfl, _, rfl, ?_⟩
    rw [k0, decN]
    refine step ⟨_, rfl, p, dx, _, rfl, hp, rfl, _, rfl, p, v, us, rfl, hS, hN, .inr ⟨d, n, no, ?_⟩⟩ ⟨_, rfl, rfl, _, rfl, ?_⟩
    rotate_left
    rw [k1, decN]
    refine step ⟨_, rfl, p, dx, _, rfl, hp, rfl, _, rfl, p, v, us, rfl, hS, hN, .inr ⟨d, n, no, ?_⟩⟩ ⟨_, rfl, rfl, _, rfl, ?_⟩
    rotate_left
    rw [k2, decN]
    refine step ⟨_, rfl, p, dx, _, rfl, hp, rfl, _, rfl, p, v, us, rfl, hS, hN, .inr ⟨d, n, no, ?_⟩⟩ ⟨_, rfl, p, dx, _, rfl, hp, rfl, _, rfl, p, v, us, rfl, hS, hN, .inr ⟨d, n, no, ?_⟩⟩
    all_goals
      intro e v' H1 ne we hv s1
      refine ⟨true, T.ax_NoUnit.exm, fun _ x nx => ?_, fun z => nomatch z⟩
      refine ⟨_, rfl, e, _, rfl, rfl, rfl, we, fun H2 s2 => ?_⟩
      refine ⟨_, rfl, rfl, rfl, e, _, v', rfl, s2 _ _ we, rfl, v', d, n, rfl, Dp_same (nuD_same.trans (nu_same.trans s2)) hv, no.2.1, no.2.2.1, ?_⟩
      refine ⟨_, rfl, _, _, _, _, e, _, rfl, rfl, T.ax_NoUnit.is, (fun _ h => h), T.kx_NoUnit_KeyError, rfl, s2 _ _ we, ?_⟩
      refine ⟨by show 3 ≤ sizeLine; decide, fun t nt => ?_⟩
      exact q t _ (s1.trans (s2.trans (same_upd nt))) upd_same
/-! ### odd things -/
/-- the candidates for a name that isn't there -/
def qcand (i : Nat) : Str := (⟨#[97 + i]⟩ : Str) ++ Str.ofString "qq"
theorem qcand_tl (i : Nat) : (qcand i).cps.toList = (97 + i) :: (Str.ofString "qq").cps.toList := by
  unfold qcand
  exact sign_app_tl _ _
def qcands : List Str := (List.range 26).map qcand
theorem qcands_nodup : qcands.Nodup := by
  unfold qcands
  rw [List.nodup_iff_pairwise_ne, List.pairwise_map]
  refine List.Pairwise.imp ?_ (List.pairwise_lt_range (n := 26))
  intro a b lt e
  have := congrArg (fun x : Str => x.cps.toList) e
  simp only [qcand_tl] at this
  injection this with this _
  omega
theorem filter_few {α : Type} [DecidableEq α] {cs ds : List α} (hn : cs.Nodup) : cs.length ≤ (cs.filter fun x => decide (x ∉ ds)).length + ds.length := by
  have h1 : cs.length = (cs.filter fun x => decide (x ∉ ds)).length + (cs.filter fun x => !decide (x ∉ ds)).length := by
    clear hn
    induction cs with
    | nil => rfl
    | cons c cs ih =>
      by_cases e : c ∈ ds
      · simp [List.filter_cons, e]
        simp at ih
        omega
      · simp [List.filter_cons, e]
        simp at ih
        omega
  have h2 : (cs.filter fun x => !decide (x ∉ ds)).length ≤ ds.length := nodup_le _ _ (hn.filter _) fun c hc => by
    have := (List.mem_filter.mp hc).2
    simpa using this
  omega
theorem qcand_asc {i : Nat} (h : i < 26) : Asc (qcand i) := fun c hc => by
  rw [qcand_tl] at hc
  rcases List.mem_cons.mp hc with rfl | hc
  · omega
  · have : ∀ c ∈ (Str.ofString "qq").cps.toList, c < 128 := by decide +kernel
    exact this c hc
/-- great letters -/
theorem up_codes {x : Str} (h : Nm x) : ∀ c ∈ (Txt.upper x).cps.toList, 65 ≤ c ∧ c ≤ 90 := by
  have one : ∀ c < 123, 97 ≤ c → ∀ y ∈ Unicode.upperOf c, 65 ≤ y ∧ y ≤ 90 := by decide +kernel
  intro c hc
  unfold Txt.upper placed at hc
  rw [Array.mem_toList_iff, Array.mem_flatten] at hc
  obtain ⟨ys, h1, h2⟩ := hc
  rw [Array.mem_mapIdx] at h1
  obtain ⟨i, hi, rfl⟩ := h1
  have hx := h.1 x.cps[i] (by rw [Array.mem_toList_iff]; exact Array.getElem_mem hi)
  exact one x.cps[i] (by omega) hx.1 c (by simpa using h2)
theorem not_nm {x y : Str} (h : Nm y) {c : Nat} (hc : c ∈ x.cps.toList) (no : c < 97 ∨ 122 < c) : (PyData.str x) ≠ .str y := fun e => by
  injection e with e
  have := h.1 c (e ▸ hc)
  omega
theorem str_cps_app (a b : Str) : (a ++ b).cps.toList = a.cps.toList ++ b.cps.toList := by
  rw [show (a ++ b).cps = a.cps ++ b.cps from rfl, Array.toList_append]
/-- a thing that may be asked for and is none of the names; it shares nothing with two lists -/
def Thing (K : PySem.W.Frag) (H : Hp) (p L : Addr) (ns : List Str) (v : V) : Prop := ∃ d n, Dp K (del (del H p) L) v d ∧ UE.Odd d n ∧ n ≤ 2000 ∧ AscD d ∧ ∀ w ∈ ns, d ≠ .str w
/-- the same, as yet without the second list -/
def Th0 (K : PySem.W.Frag) (H : Hp) (p : Addr) (ns : List Str) (v : V) : Prop := ∃ d n, Dp K (del H p) v d ∧ UE.Odd d n ∧ n ≤ 2000 ∧ AscD d ∧ ∀ w ∈ ns, d ≠ .str w
theorem Th0.keep {H H' : Hp} {p : Addr} {ns : List Str} {v : V} (h : Th0 K H p ns v) (k : Kp p H H') : Th0 K H' p ns v := by
  obtain ⟨d, n, h1, h2⟩ := h
  exact ⟨d, n, Dp_same (del_kp k) h1, h2⟩
theorem Th0.thing {H H' : Hp} {p L : Addr} {ns : List Str} {v : V} (h : Th0 K H p ns v) (s : Same H H') (nL : H L = none) : Thing K H' p L ns v := by
  obtain ⟨d, n, h1, h2⟩ := h
  refine ⟨d, n, Dp_same (fun b o e => ?_) h1, h2⟩
  have e1 := del_kp (Kp.of s) _ _ e
  rw [del_ne (ne_some (del_sub _ _ e) nL)]
  exact e1
theorem Thing.th0 {H : Hp} {p L : Addr} {ns : List Str} {v : V} (h : Thing K H p L ns v) : Th0 K H p ns v := by
  obtain ⟨d, n, h1, h2⟩ := h
  exact ⟨d, n, Dp_same del_sub h1, h2⟩
theorem strs_asc {zs : List Str} (h : ∀ z ∈ zs, Asc z) : ∀ d ∈ zs.map PyData.str, AscD d := fun d hd => by
  obtain ⟨z, hz, rfl⟩ := List.mem_map.mp hd
  exact .str (h z hz)
theorem strs_flats {m : Nat} : ∀ {zs : List Str}, (∀ z ∈ zs, Asc z ∧ z.length ≤ m) → ∃ n, UE.Flats (zs.map PyData.str) n ∧ n ≤ (10 * m + 4) * zs.length
  | [], _ => ⟨0, .nil, Nat.le_refl _⟩
  | z :: zs, h => by
    obtain ⟨n, a, b⟩ := strs_flats fun y hy => h y (List.mem_cons_of_mem _ hy)
    obtain ⟨h1, h2⟩ := h z (List.mem_cons_self ..)
    refine ⟨_, .cons h1.flat a, ?_⟩
    rw [List.length_cons, Nat.mul_succ]
    omega
def sp_law_odd_things (K : PySem.W.Frag) : Sp := fun vs H Q _ => ∃ (p l : Addr) (n : Nat) (ns : List Str), vs = [.ref p, .ref l] ∧ Bag n H p ∧ n < 600000000 ∧ H l = some (.lst (ns.map V.str)) ∧ l ≠ p ∧ (∀ x ∈ ns, Nm x) ∧ ns.Nodup ∧ ns.length ≤ 16 ∧
  ∀ L xs H', H L = none → H' L = some (.lst xs) → xs.length ≤ 12 → 0 < xs.length → (∀ v ∈ xs, Thing K H' p L ns v) → Bag (n + 100) H' p → Kp p H H' → Q (.ref L) H'
theorem ok_law_odd_things (T : Txt K mg) : FnOk P w K mg base CX0 3 (He.fAd K ("_law_odd_things", none)) T.d_law_odd_things ["_law_bag_here", "_law_words"] (sp_law_odd_things K) := by
  refine T.F_law_odd_things.ok sc_law_odd_things (fun vs H Q E h => ?_) (fun cdv A outer s H vs Q E hr h => ?_)
  · obtain ⟨p, l, n, ns, rfl, _⟩ := h
    rfl
  · obtain ⟨p, l, n, ns, rfl, B, hn, hl, nlp, hnm, hnd, few, q⟩ := h
    refine ⟨_, PSs.nox (pss_cons (ps_setLc (i := 2) (own := [("_law_one", 5)]) (by rfl) sc_law_odd_things.nd rfl rfl (sw_true rfl rfl rfl (by decide +kernel)) (pi_str pe_str) (blkOk_by (own := [("_law_one", 5)]) (N := N_law_odd_things) (sc := defScope s_law_odd_things) (by decide +kernel)) (fun _ _ _ _ _ => (pg_name (i := 5) sc_law_odd_things.nd rfl (Or.inl rfl))) (fun _ _ _ _ _ => (pts_one (pt_cmpR (r := rIn K true) op_notIn_seq (pe_op op_add_str (pv 5) pe_str) (pv 1) (by rfl)))) (fun _ _ _ _ _ => (pe_op op_add_str (pv 5) pe_str)))
      (pss_cons (ps_set (i := 3) sc_law_odd_things.nd rfl (Or.inl rfl) (pe_lst (pa_cons (pe_call (ok_law_any T) (hr.mono (by decide)) (by rfl) T.m_law_any T.F_law_any.kp T.b_law_any .nil pass0 (pa_cons (pv 0) pa_nil)) (pa_cons (pe_call (ok_law_any T) (hr.mono (by decide)) (by rfl) T.m_law_any T.F_law_any.kp T.b_law_any .nil pass0 (pa_cons (pv 0) pa_nil)) (pa_cons (pe_ix ix_list (pv 2) (pe_call (ok_law_take T) (hr.mono (by decide)) (by rfl) T.m_law_take T.F_law_take.kp T.b_law_take .nil pass0 (pa_cons (pv 0) (pa_cons pe_int pa_nil))) (fun _ _ => rfl)) (pa_cons (pe_callTy (T := "list")  call_list_of (by rfl) T.n_list (by decide +kernel) (pa_cons (pv 1) pa_nil)) (pa_cons (pe_callTy (T := "tuple")  call_tuple_of (by rfl) T.n_tuple (by decide +kernel) (pa_cons (pv 1) pa_nil)) (pa_cons (pe_callB (id := "len")  call_len_seq (by rfl) T.n_len (by decide +kernel) (pa_cons (pv 1) pa_nil)) (pa_cons pe_bl pa_nil)))))))))
      (pss_mid (ps_if (pt_cmpR op_gt (pe_callB (id := "len")  call_len_seq (by rfl) T.n_len (by decide +kernel) (pa_cons (pv 1) pa_nil)) pe_int (nomark _))
      (pss_cons (ps_set (i := 4) sc_law_odd_things.nd rfl (Or.inl rfl) (pe_ix ix_list (pv 1) (pe_call (ok_law_take T) (hr.mono (by decide)) (by rfl) T.m_law_take T.F_law_take.kp T.b_law_take .nil pass0 (pa_cons (pv 0) (pa_cons (pe_callB (id := "len")  call_len_seq (by rfl) T.n_len (by decide +kernel) (pa_cons (pv 1) pa_nil)) pa_nil))) (fun _ _ => rfl)))
      (pss_one (ps_set (i := 3) sc_law_odd_things.nd rfl (Or.inl rfl) (pe_op op_cat (pv 3) (pe_lst (pa_cons (pe_upper (pv 4)) (pa_cons (pe_op op_add_str (pv 4) pe_str) (pa_cons (pe_tup (pa_cons (pv 4) pa_nil)) (pa_cons (pe_lst (pa_cons (pv 4) pa_nil)) (pa_cons (pe_op op_add_str (pe_op op_add_str (pe_op op_add_str (pv 4) (pv 4)) (pv 4)) pe_str) pa_nil))))))))))
      pss_nil)
      (pss_one (ps_ret (pv 3)))))), ?_⟩
    have npH := B.some
    -- strange
    refine ⟨_, rfl, fun D nD => ?_⟩
    refine lc_it (walk_str (z := lettersS)) (fun j H' => Same H H' ∧ H' D = some (.lst ((((List.range j).map qcand).filter fun x => decide (x ∉ ns)).map V.str))) ⟨same_upd nD, upd_same⟩ (fun _ _ _ _ => trivial) ?_ ?_
    · rintro j x H4 H4' hj ⟨s4, w4⟩ ⟨rfl, c, hc', rfl⟩
      obtain ⟨hj26, rfl⟩ := letters_get hc'
      refine ⟨rfl, ?_⟩
      have ltot : ((⟨#[97 + j]⟩ : Str).length + (Str.ofString "qq").length) ≤ sizeLine := by
        have h1 : (⟨#[97 + j]⟩ : Str).length = 1 := rfl
        rw [h1]
        decide +kernel
      refine ⟨_, rfl, _, _, rfl, rfl, ltot, _, rfl, l, _, rfl, .inl (SqL.of (s4 _ _ hl)), rfl, strs_flat ns, _, rfl, ?_⟩
      rw [range_map_succ', List.filter_append, List.map_append]
      show if (if true = true then !inV (.str (qcand j)) (ns.map V.str) else _) = true then _ else _
      rw [if_pos rfl, inV_str]
      by_cases hin : qcand j ∈ ns
      · rw [decide_eq_true hin]
        refine iteF ⟨s4, ?_⟩
        rw [List.filter_cons_of_neg (p := fun x => decide (x ∉ ns)) (by rw [decide_eq_false (fun z => z hin)]; exact Bool.false_ne_true), List.filter_nil, List.map_nil, List.append_nil]
        exact w4
      · rw [decide_eq_false hin]
        refine iteT ?_
        refine ⟨_, rfl, _, _, rfl, rfl, ltot, _, w4, ?_, Same.own (q := D) (H1 := H4') s4 (mut_keep rfl) nD, ?_⟩
        · rw [List.length_map]
          refine Nat.lt_of_le_of_lt (List.length_filter_le _ _) ?_
          rw [List.length_map, List.length_range]
          exact small1000 (by omega)
        · rw [upd_same, List.filter_cons_of_pos (p := fun x => decide (x ∉ ns)) (decide_eq_true hin)]
          rfl
    rintro H4 ⟨s4, w4⟩
    rw [letters_size] at w4
    have hfl := filter_few (ds := ns) qcands_nodup
    have hfm : ∀ x ∈ qcands.filter fun x => decide (x ∉ ns), Asc x ∧ x.length ≤ 3 ∧ x ∉ ns := fun x hx => by
      obtain ⟨h1, h2⟩ := List.mem_filter.mp hx
      obtain ⟨i, hi, rfl⟩ := List.mem_map.mp h1
      exact ⟨qcand_asc (List.mem_range.mp hi), Nat.le_refl 3, of_decide_eq_true h2⟩
    rw [show qcands.length = 26 from by unfold qcands; rw [List.length_map, List.length_range]] at hfl
    change H4 D = some (.lst ((qcands.filter fun x => decide (x ∉ ns)).map V.str)) at w4
    generalize qcands.filter (fun x => decide (x ∉ ns)) = fs at hfl hfm w4
    have B4 := B.same s4
    have nDp : D ≠ p := fun e => by
      obtain ⟨o, ho⟩ := B.some
      rw [← e, nD] at ho
      cases ho
    -- two of any
    refine ⟨_, rfl, p, n, rfl, B4, by omega, fun v1 d1 H5 a1 c1 no1 B5 k5 => ?_⟩
    refine ⟨_, rfl, p, n + 1, rfl, B5, by omega, fun v2 d2 H6 a2 c2 no2 B6 k6 => ?_⟩
    have k46 := k5.trans k6
    have w6 := k46 _ _ w4 nDp
    have hl4 := s4 _ _ hl
    have hl6 := k46 _ _ hl4 nlp
    -- a strange one
    refine ⟨_, rfl, _, rfl, ?_⟩
    refine take_of (z := 8) B6 (by decide) (by decide) (by omega) fun r7 H7 r0 r8 B7 k7 => ?_
    have w7 := k7 _ _ w6 nDp
    have hl7 := k7 _ _ hl6 nlp
    obtain ⟨j7, rfl⟩ := Int.eq_ofNat_of_zero_le r0
    obtain ⟨z, hz⟩ : ∃ z, fs[j7]? = some z := ⟨_, List.getElem?_eq_getElem (by omega)⟩
    have hz' : (fs.map V.str)[j7]? = some (.str z) := by rw [List.getElem?_map, hz]; rfl
    obtain ⟨za, zl, zn⟩ := hfm z (List.mem_of_getElem? hz)
    refine ⟨D, _, _, _, rfl, rfl, SqL.of w7, atI_nat (j := j7) hz', ?_⟩
    have hl7' : SqL K H7 l (ns.map V.str) := SqL.of hl7
    -- list, tuple, len
    refine ⟨_, rfl, l, _, rfl, .inl hl7', fun l8 n8 => ?_⟩
    generalize hE8 : upd H7 l8 _ = H8
    have w8 := new_at hE8
    have s8 := new_same hE8 n8
    refine ⟨_, rfl, l, _, rfl, .inl ⟨SqL.of (s8 _ _ hl7), fun t9 n9 => ?_⟩⟩
    generalize hE9 : upd H8 t9 _ = H9
    have w9 := new_at hE9
    have s9 := new_same hE9 n9
    have s79 := s8.trans s9
    refine ⟨_, rfl, l, _, rfl, .inl (SqL.of (s79 _ _ hl7)), by show 7 ≤ sizeLine; decide, fun L nL => ?_⟩
    generalize hE10 : upd H9 L _ = H10
    have wL := new_at hE10
    have s10 := new_same hE10 nL
    have B9 := B7.same s79
    have kk : Kp p H H9 := (Kp.of s4).trans (k46.trans (k7.trans (Kp.of s79)))
    have dat : ∀ {t : Addr} {o : HO}, H9 t = some o → t ≠ p → (del H9 p) t = some o := fun e n => (del_ne n).trans e
    have ne8 : l8 ≠ p := fun e => by
      obtain ⟨o, ho⟩ := B7.some
      rw [← e, n8] at ho
      cases ho
    have ne9 : t9 ≠ p := fun e => by
      obtain ⟨o, ho⟩ := (B7.same s8).some
      rw [← e, n9] at ho
      cases ho
    obtain ⟨m1, o1, f1⟩ := a1.2
    obtain ⟨m2, o2, f2⟩ := a2.2
    have nmA : ∀ x ∈ ns, Asc x ∧ x.length ≤ 8 := fun x hx => ⟨nm_asc (hnm x hx), (hnm x hx).2.2⟩
    obtain ⟨mF, oF, fF⟩ := strs_flats nmA
    have fF' : mF ≤ 84 * 16 := Nat.le_trans fF (Nat.mul_le_mul_left _ few)
    have all : ∀ v ∈ [v1, v2, V.str z, .ref l8, .ref t9, .int ((ns.map V.str).length : Nat), .bl true], Th0 K H9 p ns v := by
      intro v hv
      simp only [List.mem_cons, List.not_mem_nil, or_false] at hv
      rcases hv with rfl | rfl | rfl | rfl | rfl | rfl | rfl
      · exact ⟨d1, m1, Dp_same (del_kp (k6.trans (k7.trans (Kp.of s79)))) a1.1, o1, by omega, c1, fun w hw => no1 w (hnm w hw)⟩
      · exact ⟨d2, m2, Dp_same (del_kp (k7.trans (Kp.of s79))) a2.1, o2, by omega, c2, fun w hw => no2 w (hnm w hw)⟩
      · exact ⟨_, _, .str z, .low (.flat za.flat), by omega, .str za, fun w hw e => zn (by injection e with e; rw [e]; exact hw)⟩
      · exact ⟨_, _, .lst (SqL.of (dat (s9 _ _ w8) ne8)) (dpAll_strs ns), .low (.lst oF), by omega, .lst (strs_asc fun x hx => (nmA x hx).1), fun _ _ e => nomatch e⟩
      · exact ⟨_, _, .tup (SqT.of (dat w9 ne9)) (dpAll_strs ns), .tup oF.lows, by omega, .tup (strs_asc fun x hx => (nmA x hx).1), fun _ _ e => nomatch e⟩
      · refine ⟨_, _, .int _, .low (.flat (.int ?_)), by decide, .int ?_, fun _ _ e => nomatch e⟩
        · rw [List.length_map]
          exact Nat.lt_of_le_of_lt (show ns.length ≤ 16 by omega) (by decide)
        · rw [List.length_map]
          have : ∀ m < 17, ∀ c ∈ (Str.ofString (toString ((m : Nat) : Int))).cps.toList, c < 128 := by decide +kernel
          exact this _ (by omega)
      · exact ⟨_, _, .bl true, .low (.flat (.bl true)), by decide, .bl true, fun _ _ e => nomatch e⟩
    have nLH : H L = none := kk.free nL fun e => by
      obtain ⟨o, ho⟩ := B9.some
      rw [← e, nL] at ho
      cases ho
    -- if there are names
    refine ⟨fun σ H' => ∃ (M : Addr) (xs : List V) (y2 y4 y5 : Option V), σ = [some (.ref p), some (.ref l), y2, some (.ref M), y4, y5] ∧ H M = none ∧ H' M = some (.lst xs) ∧ xs.length ≤ 12 ∧ 0 < xs.length ∧ (∀ v ∈ xs, Thing K H' p M ns v) ∧ Bag (n + 50) H' p ∧ Kp p H H', ?_, ?_⟩
    · refine ⟨_, rfl, l, _, rfl, .inl (SqL.of ((s79.trans s10) _ _ hl7)), _, _, rfl, rfl, _, rfl, ?_⟩
      rw [List.length_map]
      by_cases c : ns.length = 0
      · refine iteNd (by omega) ?_
        exact ⟨L, _, _, _, _, rfl, nLH, wL, by show 7 ≤ 12; decide, by show 0 < 7; decide, fun v hv => (all v hv).thing s10 nL, (B9.same s10).le (by omega), kk.trans (Kp.of s10)⟩
      refine iteYd (by omega) ?_
      have hl10 := (s79.trans s10) _ _ hl7
      have B10 := B9.same s10
      refine ⟨_, rfl, _, rfl, _, rfl, l, _, rfl, .inl (SqL.of hl10), ?_⟩
      refine take_of (z := ((ns.map V.str).length : Int)) B10 (by rw [List.length_map]; omega) (by rw [List.length_map]; omega) (by omega) fun r11 H11 r0' r1' B11 k11 => ?_
      rw [List.length_map] at r1'
      obtain ⟨j11, rfl⟩ := Int.eq_ofNat_of_zero_le r0'
      have npl := nlp
      have hl11 := k11 _ _ hl10 nlp
      obtain ⟨wd, hwd⟩ : ∃ wd, ns[j11]? = some wd := ⟨_, List.getElem?_eq_getElem (by omega)⟩
      have hwd' : (ns.map V.str)[j11]? = some (.str wd) := by rw [List.getElem?_map, hwd]; rfl
      have nwd := hnm wd (List.mem_of_getElem? hwd)
      have lwd := nwd.2.2
      have pwd := nwd.2.1
      have awd := nm_asc nwd
      refine ⟨l, _, _, _, rfl, rfl, SqL.of hl11, atI_nat (j := j11) hwd', ?_⟩
      have nLp : L ≠ p := fun e => by
        obtain ⟨o, ho⟩ := B9.some
        rw [← e, nL] at ho
        cases ho
      have wL11 := k11 _ _ wL nLp
      have lo : ∀ {m : Nat}, m ≤ 1000 → m ≤ sizeLine := fun h => Nat.le_of_lt (small1000 h)
      have l1 : (Str.ofString " ").length = 1 := by decide +kernel
      have l8s : (Str.ofString "longname").length = 8 := by decide +kernel
      have lap : ∀ a b : Str, (a ++ b).length = a.length + b.length := PySem.Str.length_append
      refine ⟨_, rfl, _, rfl, ⟨wd, rfl⟩, wd, rfl, rfl, by omega, ?_⟩
      refine ⟨_, rfl, _, _, rfl, rfl, by rw [l1]; exact lo (by omega), ?_⟩
      refine ⟨_, rfl, by show 1 ≤ sizeLine; decide, fun t12 n12 => ?_⟩
      generalize hE12 : upd H11 t12 _ = H12
      have w12 := new_at hE12
      have s12 := new_same hE12 n12
      refine ⟨_, rfl, by show 1 ≤ sizeLine; decide, fun l13 n13 => ?_⟩
      generalize hE13 : upd H12 l13 _ = H13
      have w13 := new_at hE13
      have s13 := new_same hE13 n13
      refine ⟨_, rfl, _, rfl, _, _, rfl, rfl, lo (by omega), _, rfl, _, _, rfl, rfl, lo (by rw [lap]; omega), _, _, rfl, rfl, lo (by rw [lap, lap, l8s]; omega), ?_⟩
      refine ⟨by show 5 ≤ sizeLine; decide, fun M nM => ?_⟩
      generalize hE14 : upd H13 M _ = H14
      have wM := new_at hE14
      have s14 := new_same hE14 nM
      have s1114 := s12.trans (s13.trans s14)
      refine ⟨L, M, _, _, rfl, rfl, s1114 _ _ wL11, wM, lo (by show 12 ≤ 1000; decide), fun N nN => ?_⟩
      generalize hE15 : upd H14 N _ = H15
      have wN := new_at hE15
      have s15 := new_same hE15 nN
      have B14 := B11.same s1114
      have k914 : Kp p H9 H14 := (Kp.of s10).trans (k11.trans (Kp.of s1114))
      have ne12 : t12 ≠ p := fun e => by
        obtain ⟨o, ho⟩ := B11.some
        rw [← e, n12] at ho
        cases ho
      have ne13 : l13 ≠ p := fun e => by
        obtain ⟨o, ho⟩ := (B11.same s12).some
        rw [← e, n13] at ho
        cases ho
      have dat : ∀ {t : Addr} {o : HO}, H14 t = some o → t ≠ p → (del H14 p) t = some o := fun e n => (del_ne n).trans e
      have upA : Asc (Txt.upper wd) := fun c hc => Nat.lt_of_le_of_lt (up_codes nwd c hc).2 (by decide)
      have upL : (Txt.upper wd).length ≤ 3 * wd.length := PyProof.Rows.len_upper wd
      have aw1 : Asc (Str.ofString " ") := by unfold Asc; decide +kernel
      have aw8 : Asc (Str.ofString "longname") := by unfold Asc; decide +kernel
      have wide : wd ++ wd ++ wd ++ Str.ofString "longname" ∉ ns := fun z => by
        have := (hnm _ z).2.2
        rw [lap, l8s, lap, lap] at this
        omega
      have spaced : wd ++ Str.ofString " " ∉ ns := fun z => by
        have := ((hnm _ z).1 32 (by rw [str_cps_app]; exact List.mem_append_right _ (by decide +kernel))).1
        omega
      have great : Txt.upper wd ∉ ns := fun z => by
        have h1 := (hnm _ z)
        have h2 : 0 < (Txt.upper wd).cps.toList.length := by rw [Array.length_toList]; exact h1.2.1
        obtain ⟨c, hc⟩ := List.exists_mem_of_length_pos h2
        have := (h1.1 c hc).1
        have := (up_codes nwd c hc).2
        omega
      have all5 : ∀ v ∈ [V.str (Txt.upper wd), .str (wd ++ Str.ofString " "), .ref t12, .ref l13, .str (wd ++ wd ++ wd ++ Str.ofString "longname")], Th0 K H14 p ns v := by
        intro v hv
        simp only [List.mem_cons, List.not_mem_nil, or_false] at hv
        rcases hv with rfl | rfl | rfl | rfl | rfl
        · exact ⟨_, _, .str _, .low (.flat upA.flat), by omega, .str upA, fun w hw e => great (by injection e with e; rw [e]; exact hw)⟩
        · exact ⟨_, _, .str _, .low (.flat (awd.app aw1).flat), by rw [lap, l1]; omega, .str (awd.app aw1), fun w hw e => spaced (by injection e with e; rw [e]; exact hw)⟩
        · exact ⟨_, _, .tup (SqT.of (dat ((s13.trans s14) _ _ w12) ne12)) (.cons (.str wd) .nil), .tup (.cons (.flat awd.flat) .nil), by omega, .tup fun d hd => by rw [List.mem_singleton.mp hd]; exact .str awd, fun _ _ e => nomatch e⟩
        · exact ⟨_, _, .lst (SqL.of (dat (s14 _ _ w13) ne13)) (.cons (.str wd) .nil), .low (.lst (.cons awd.flat .nil)), by omega, .lst fun d hd => by rw [List.mem_singleton.mp hd]; exact .str awd, fun _ _ e => nomatch e⟩
        · exact ⟨_, _, .str _, .low (.flat (((awd.app awd).app awd).app aw8).flat), by rw [lap, lap, lap, l8s]; omega, .str (((awd.app awd).app awd).app aw8), fun w hw e => wide (by injection e with e; rw [e]; exact hw)⟩
      have nNH : H N = none := (kk.trans k914).free nN fun e => by
        obtain ⟨o, ho⟩ := B14.some
        rw [← e, nN] at ho
        cases ho
      refine ⟨N, _, _, _, _, rfl, nNH, wN, by show 12 ≤ 12; decide, by show 0 < 12; decide, fun v hv => ?_, (B14.same s15).le (by omega), (kk.trans k914).trans (Kp.of s15)⟩
      rcases List.mem_append.mp hv with hv | hv
      · exact ((all v hv).keep k914).thing s15 nN
      · exact (all5 v hv).thing s15 nN
    · rintro σ H11 ⟨M, xs, y2, y4, y5, rfl, nM, wM, fx, px, allM, B11, k11⟩
      exact ⟨_, rfl, q M xs H11 nM wM fx px allM (B11.le (by omega)) k11⟩

-- SPLIT
/-! ### lists of lists of texts -/
inductive LsH (H : Hp) : List V → List (List Str) → Prop
  | nil : LsH H [] []
  | cons {a : Addr} {z : List Str} {xs : List V} {zs : List (List Str)} : H a = some (.lst (z.map V.str)) → LsH H xs zs → LsH H (.ref a :: xs) (z :: zs)
section
variable {H H' : Hp} {xs ys : List V} {zs qs : List (List Str)}
theorem LsH.same (h : LsH H xs zs) (s : Same H H') : LsH H' xs zs := by
  induction h with
  | nil => exact .nil
  | cons a _ ih => exact .cons (s _ _ a) ih
theorem LsH.keep {q : Addr} (h : LsH H xs zs) (k : Kp q H H') (n : V.ref q ∉ xs) : LsH H' xs zs := by
  induction h with
  | nil => exact .nil
  | cons a _ ih => exact .cons (k _ _ a fun e => n (by rw [e]; exact List.mem_cons_self)) (ih fun z => n (List.mem_cons_of_mem _ z))
theorem LsH.len (h : LsH H xs zs) : xs.length = zs.length := by
  induction h with
  | nil => rfl
  | cons _ _ ih => rw [List.length_cons, List.length_cons, ih]
theorem LsH.app (h : LsH H xs zs) (g : LsH H ys qs) : LsH H (xs ++ ys) (zs ++ qs) := by
  induction h with
  | nil => exact g
  | cons a _ ih => exact .cons a ih
theorem LsH.get {i : Nat} {x : V} (h : LsH H xs zs) (e : xs[i]? = some x) : ∃ a z, x = .ref a ∧ zs[i]? = some z ∧ H a = some (.lst (z.map V.str)) := by
  induction h generalizing i with
  | nil => cases e
  | @cons a z _ _ w _ ih =>
    cases i with
    | zero => exact ⟨a, z, (Option.some.inj e).symm, rfl, w⟩
    | succ i => exact ih e
theorem LsH.old (h : LsH H xs zs) {q : Addr} (n : H q = none) : V.ref q ∉ xs := by
  induction h with
  | nil => exact List.not_mem_nil
  | @cons a z _ _ w _ ih =>
    intro c
    rcases List.mem_cons.mp c with c | c
    · injection c with c
      rw [c, w] at n
      cases n
    · exact ih c
theorem ls_put {H1 H2 : Hp} {D l : Addr} {ys : List V} {zs : List (List Str)} {z : List Str} (s : Same H1 H2) (nD : H1 D = none) (w : H2 D = some (.lst ys)) (p : LsH H2 ys zs) (nin : V.ref D ∉ ys) (nl : H2 l = none) :
    Same H1 (upd (upd H2 l (.lst (z.map V.str))) D (.lst (ys ++ [.ref l]))) ∧ ∃ ys', (upd (upd H2 l (.lst (z.map V.str))) D (.lst (ys ++ [.ref l]))) D = some (.lst ys') ∧ LsH (upd (upd H2 l (.lst (z.map V.str))) D (.lst (ys ++ [.ref l]))) ys' (zs ++ [z]) ∧ V.ref D ∉ ys' := by
  have st : Same H2 (upd H2 l (.lst (z.map V.str))) := same_upd nl
  have m : Kp D (upd H2 l (.lst (z.map V.str))) (upd (upd H2 l (.lst (z.map V.str))) D (.lst (ys ++ [.ref l]))) := mut_keep rfl
  have ne : D ≠ l := ne_some w nl
  refine ⟨Same.own (s.trans st) m nD, _, upd_same, ((p.same st).keep m nin).app (.cons (m _ _ upd_same ne.symm) .nil), fun c => ?_⟩
  rcases List.mem_append.mp c with c | c
  · exact nin c
  · have := List.mem_singleton.mp c
    injection this with this
    exact ne this
theorem ls_put2 {H1 H2 : Hp} {D l : Addr} {ys : List V} {zs : List (List Str)} {z : List Str} (s : Same H1 H2) (nD : H1 D = none) (p : LsH H2 ys zs) (nin : V.ref D ∉ ys) (wl : H2 l = some (.lst (z.map V.str))) (ne : l ≠ D) :
    Same H1 (upd H2 D (.lst (ys ++ [.ref l]))) ∧ ∃ ys', upd H2 D (.lst (ys ++ [.ref l])) D = some (.lst ys') ∧ LsH (upd H2 D (.lst (ys ++ [.ref l]))) ys' (zs ++ [z]) ∧ V.ref D ∉ ys' := by
  have m : Kp D H2 (upd H2 D (.lst (ys ++ [.ref l]))) := mut_keep rfl
  refine ⟨Same.own s m nD, _, upd_same, (p.keep m nin).app (.cons (m _ _ wl ne) .nil), fun c => ?_⟩
  rcases List.mem_append.mp c with c | c
  · exact nin c
  · have := List.mem_singleton.mp c
    injection this with this
    exact ne this.symm
def encL (z : List Str) : PyData := .list (z.map .str)
theorem LsH.dp (h : LsH H xs zs) : DpAll K H xs (zs.map encL) := by
  induction h with
  | nil => exact .nil
  | cons a _ ih => exact .cons (.lst (SqL.of a) (dpAll_strs _)) ih
end
theorem lay_strs : ∀ {z : List Str}, (∀ x ∈ z, PyData.strOk x = true) → PyData.canLayAll0 (z.map PyData.str) = true ∧ PyData.depthAll (z.map PyData.str) = 0
  | [], _ => ⟨by simp only [List.map_nil, PyData.canLayAll0], by simp only [List.map_nil, PyData.depthAll]⟩
  | x :: z, h => by
    obtain ⟨a, b⟩ := lay_strs fun y hy => h y (List.mem_cons_of_mem _ hy)
    refine ⟨?_, ?_⟩
    · simp only [List.map_cons, PyData.canLayAll0, PyData.canLay0, h x List.mem_cons_self, a, Bool.and_self]
    · simp only [List.map_cons, PyData.depthAll, PyData.depth, b, Nat.max_self]
theorem lay_L {z : List Str} (h : ∀ x ∈ z, PyData.strOk x = true) : PyData.canLay0 (encL z) = true ∧ PyData.depth (encL z) = 1 := by
  obtain ⟨a, b⟩ := lay_strs h
  unfold encL
  refine ⟨?_, ?_⟩
  · simp only [PyData.canLay0]
    exact a
  · simp only [PyData.depth]
    rw [b]
theorem lay_LL : ∀ {zs : List (List Str)}, (∀ z ∈ zs, ∀ x ∈ z, PyData.strOk x = true) → PyData.canLayAll0 (zs.map encL) = true ∧ PyData.depthAll (zs.map encL) ≤ 1
  | [], _ => ⟨by simp only [List.map_nil, PyData.canLayAll0], by simp only [List.map_nil, PyData.depthAll]; decide⟩
  | z :: zs, h => by
    obtain ⟨a, b⟩ := lay_LL fun y hy => h y (List.mem_cons_of_mem _ hy)
    obtain ⟨c, e⟩ := lay_L (h z List.mem_cons_self)
    refine ⟨?_, ?_⟩
    · simp only [List.map_cons, PyData.canLayAll0, a, c, Bool.and_self]
    · simp only [List.map_cons, PyData.depthAll, e]
      omega
theorem shaped_LL {zs : List (List Str)} (h : ∀ z ∈ zs, ∀ x ∈ z, PyData.strOk x = true) : SeqAt.shaped (.list (zs.map encL)) = true := by
  obtain ⟨a, b⟩ := lay_LL h
  refine Bool.and_eq_true_iff.mpr ⟨?_, decide_eq_true ?_⟩
  · simp only [PyData.canLay0]
    exact a
  · simp only [PyData.depth]
    omega
theorem shaped_TL {zs : List (List Str)} (h : ∀ z ∈ zs, ∀ x ∈ z, PyData.strOk x = true) : SeqAt.shaped (.tuple (zs.map encL)) = true := by
  obtain ⟨a, b⟩ := lay_LL h
  refine Bool.and_eq_true_iff.mpr ⟨?_, decide_eq_true ?_⟩
  · simp only [PyData.canLay0]
    exact a
  · simp only [PyData.depth]
    omega
theorem neD_alike {H : Hp} {x y : V} {D : PyData} {Q : VK} (h1 : Dp K H x D) (h2 : Dp K H y D) (sh : SeqAt.shaped D = true) (q : Q (.bl false) H) : rNeD K x y H Q := by
  refine ⟨D, D, h1, h2, sh, sh, ?_⟩
  rw [SeqAt.eqv_refl D (Bool.and_eq_true_iff.mp sh).1]
  exact q

-- SPLIT
/-! ### the law -/
structure GU (w : Str) (u : UF) : Prop where
  st : UStr u
theorem eqU {H : Hp} {p1 p2 : Addr} {w : Str} {u : UF} {Q : VK} (T : Txt K mg) (h1 : UnitAt K H p1 w u) (h2 : UnitAt K H p2 w u) (o : UStr u) (ne : p1 ≠ p2) (q : Q (.bl true) H) : UO.rAp (UO.rEqO K (He.ga K "Unit") (sp_Unit_eq K) E0) (.ref p1) (.ref p2) H Q := by
  have h1' := h1
  have h2' := h2
  obtain ⟨d1, _, _, _, _, _, e1, _⟩ := h1
  obtain ⟨d2, _, _, _, _, _, e2, _⟩ := h2
  refine ⟨ne, p1, d1, _, _, rfl, e1, T.ix_Unit.ty T.cl_Unit e2, UO.first_self _ _, p1, w, u, _, rfl, h1', o, .inl ⟨p2, w, u, rfl, h2', o, _, rfl, ?_⟩⟩
  rw [decide_eq_true ⟨rfl, rfl⟩]
  exact q
def sp_law (K : PySem.W.Frag) : Sp := fun vs H Q _ => ∃ (a : Addr) (ns : List Int), vs = [.ref a] ∧ SqL K H a (ns.map V.int) ∧ ns.length ≤ 63 ∧ ∀ H', Q (.bl true) H'
theorem ok_law (T : Txt K mg) : UG.FnG P w K mg base CX0 9 (He.fAd K ("law", none)) T.d_law ["_law_script"] (sp_law K) := by
  refine UG.okG T.F_law sc_law (fun vs H Q E h => ?_) (fun cdv A outer s H vs Q E hg hr h => ?_)
  · obtain ⟨a, ns, rfl, _⟩ := h
    rfl
  · obtain ⟨a, ns, rfl, hS, hlen, q⟩ := h
    refine ⟨_, PSs.nox (pss_cons (ps_for PassesOwn.never rfl (pi_range1 (by rfl) T.n_range (pa_cons (pe_callB (id := "max")  (call_max2 rfl) (by rfl) T.n_max (by decide +kernel) (pa_cons pe_int (pa_cons (pe_callB (id := "min")  (call_min2 rfl) (by rfl) T.n_min (by decide +kernel) (pa_cons pe_int (pa_cons (pe_callB (id := "len")  call_len_seq (by rfl) T.n_len (by decide +kernel) (pa_cons (pv 0) pa_nil)) pa_nil))) pa_nil))) pa_nil)) (pg_name (i := 1) sc_law.nd rfl (Or.inl rfl))
      (pss_cons (ps_set (i := 2) sc_law.nd rfl (Or.inl rfl) (pe_call (ok_law_bag T) (hr.mono (by decide)) (by rfl) T.m_law_bag T.F_law_bag.kp T.b_law_bag .nil pass0 (pa_cons (pv 0) (pa_cons (pv 1) pa_nil))))
      (pss_cons (ps_set (i := 3) sc_law.nd rfl (Or.inr rfl) (pe_mid (pe_ifExp (pt_cmpR op_gt (pe_call (ok_law_take T) (hr.mono (by decide)) (by rfl) T.m_law_take T.F_law_take.kp T.b_law_take .nil pass0 (pa_cons (pv 2) (pa_cons pe_int pa_nil))) pe_int (nomark _)) (pe_call (ok_law_facts T) (hr.mono (by decide)) (by rfl) T.m_law_facts T.F_law_facts.kp T.b_law_facts .nil pass0 (pa_cons (pv 2) (pa_cons pe_int pa_nil))) pe_dnewK)))
      (pss_cons (ps_set (i := 4) sc_law.nd rfl (Or.inr rfl) (pe_make T.mk_Shelf (ok_Shelf_init T) (hr.mono (by decide)) (by rfl) T.m_Shelf T.b2_Shelf_init .nil pass0 (pa_cons (pe_call (ok_law_units T) (hr.mono (by decide)) (by rfl) T.m_law_units T.F_law_units.kp T.b_law_units .nil pass0 (pa_cons (pv 3) pa_nil)) pa_nil)))
      (pss_cons (ps_set (i := 5) sc_law.nd rfl (Or.inl rfl) (pe_callB (id := "sorted")  (call_sortedD rfl) (by rfl) T.n_sorted (by decide +kernel) (pa_cons (pv 3) pa_nil)))
      (pss_cons (ps_set (i := 6) sc_law.nd rfl (Or.inl rfl) (pe_call (ok_law_odd_things T) (hr.mono (by decide)) (by rfl) T.m_law_odd_things T.F_law_odd_things.kp T.b_law_odd_things .nil pass0 (pa_cons (pv 2) (pa_cons (pv 5) pa_nil))))
      (pss_cons (ps_for PassesOwn.never rfl (pi_range1 (by rfl) T.n_range (pa_cons (pe_callB (id := "len")  call_len_seq (by rfl) T.n_len (by decide +kernel) (pa_cons (pv 6) pa_nil)) pa_nil)) (pg_name (i := 7) sc_law.nd rfl (Or.inl rfl))
      (pss_cons (ps_set (i := 8) sc_law.nd rfl (Or.inl rfl) (pe_bm PySem.F.plainAttrs_list PySem.F.slot_list_pop PySem.F.type_list_pop mt_popAt (pv 6) (pa_cons (pe_call (ok_law_take T) (hr.mono (by decide)) (by rfl) T.m_law_take T.F_law_take.kp T.b_law_take .nil pass0 (pa_cons (pv 2) (pa_cons (pe_callB (id := "len")  call_len_seq (by rfl) T.n_len (by decide +kernel) (pa_cons (pv 6) pa_nil)) pa_nil))) pa_nil)))
      (pss_cons (ps_if (PW.pt (pw_or (pt_cmpR UL.op_notB (pe_meth (pv 4) T.cl_Shelf T.me_Shelf_has (ok_Shelf_has T) (hr.mono (by decide)) T.b_Shelf_has .nil pass0 (pa_cons (pv 8) pa_nil)) pe_bl (nomark _)) (pw_or1 (pt_cmpR UL.op_notB (UX.pe_methKX (W := fun _ _ _ _ => False) (pv 4) T.cl_Shelf T.me_Shelf_has (ok_Shelf_has T) (hr.mono (by decide)) T.kb_Shelf_has_1_name.choose_spec (fun _ => UX.passAt0) (pk_cons (pv 8) pk_nil)) pe_bl (nomark _)))))
      (pss_one (ps_ret pe_bl))
      pss_nil)
      (pss_cons (ps_set (i := 9) sc_law.nd rfl (Or.inl rfl) (pe_call (ok_law_take T) (hr.mono (by decide)) (by rfl) T.m_law_take T.F_law_take.kp T.b_law_take .nil pass0 (pa_cons (pv 2) (pa_cons pe_int pa_nil))))
      (pss_one (ps_for PassesOwn.never rfl (pi_range1 (by rfl) T.n_range (pa_cons pe_int pa_nil)) (pg_name (i := 10) sc_law.nd rfl (Or.inl rfl))
      (pss_one (ps_if (pt_cmpR (op_neD hr.units) (UQ.pe_callG (ok_law_how T) hg (hr.mono (by decide)) (by rfl) T.m_law_how T.F_law_how.kp T.b_law_how pass0 (pa_cons (pv 4) (pa_cons (pe_op op_mod (pe_op op_add (pv 10) (pv 9)) pe_int) (pa_cons (pv 8) pa_nil)))) (pe_tup (pa_cons pe_str (pa_cons (pe_callB (id := "repr")  (UQ.cr_reprO hg (UG.un66 hr)) (by rfl) T.n_repr (by decide +kernel) (pa_cons (pv 8) pa_nil)) (pa_cons pe_bl pa_nil)))) (nomark _))
      (pss_one (ps_ret pe_bl))
      pss_nil))))))))
      (pss_cons (ps_if (PW.pt (pw_or (pt_cmpR (op_neD hr.units) (pe_meth0 (pv 4) T.cl_Shelf T.me_Shelf_names (ok_Shelf_names T) (hr.mono (by decide)) T.b_Shelf_names .nil pass0) (pv 5) (nomark _)) (pw_or1 (pt_not (pt_val (pe_callB (id := "all")  (cr_all rfl) (by rfl) T.n_all (by decide +kernel) (pa_cons (pe_lc (own := [("_law_word", 11)]) (by rfl) sc_law.nd (pi_list (pv 5)) (blkOk_by (own := [("_law_word", 11)]) (N := N_law) (sc := defScope s_law) (by decide +kernel)) (fun _ _ _ _ _ => (pg_name (i := 11) sc_law.nd rfl (Or.inl rfl))) (fun _ _ _ _ _ => pts_nil) (fun _ _ _ _ _ => by exact (pe_cmpR (r := UL.rIsB false) UL.op_isB (pe_meth (pv 4) T.cl_Shelf T.me_Shelf_has (ok_Shelf_has T) (hr.mono (by decide)) T.b_Shelf_has .nil pass0 (pa_cons (pv 11) pa_nil)) pe_bl (nomark _)))) pa_nil)))))))
      (pss_one (ps_ret pe_bl))
      pss_nil)
      (pss_one (ps_if (pt_cmpR (UL.op_neSame (UO.RcO.ap (UO.rc_left (ok_Unit_eq T) T.me_Unit_eq.at_ T.me_Unit_eq.fn T.b_Unit_eq pass0)) (hr.mono (by decide))) (pe_lc (own := [("_law_word", 11)]) (by rfl) sc_law.nd (pi_list (pv 5)) (blkOk_by (own := [("_law_word", 11)]) (N := N_law) (sc := defScope s_law) (by decide +kernel)) (fun _ _ _ _ _ => (pg_name (i := 11) sc_law.nd rfl (Or.inl rfl))) (fun _ _ _ _ _ => pts_nil) (fun _ _ _ _ _ => by exact (pe_meth (pv 4) T.cl_Shelf T.me_Shelf_unit (ok_Shelf_unit T) (hr.mono (by decide)) T.b_Shelf_unit .nil UX.passF (pa_cons (pv 11) pa_nil)))) (pe_lc (own := [("_law_word", 11)]) (by rfl) sc_law.nd (pi_list (pv 5)) (blkOk_by (own := [("_law_word", 11)]) (N := N_law) (sc := defScope s_law) (by decide +kernel)) (fun _ _ _ _ _ => (pg_name (i := 11) sc_law.nd rfl (Or.inl rfl))) (fun _ _ _ _ _ => pts_nil) (fun _ _ _ _ _ => (pe_call (ok_law_unit T) (hr.mono (by decide)) (by rfl) T.m_law_unit T.F_law_unit.kp T.b_law_unit .nil pass0 (pa_cons (pv 11) (pa_cons (pv 3) pa_nil))))) (nomark _))
      (pss_one (ps_ret pe_bl))
      pss_nil))))))))))
      (pss_one (ps_ret pe_bl))), ?_⟩
    refine ⟨_, rfl, a, _, rfl, .inl hS, _, _, rfl, _, _, rfl, _, rfl, ?_, ?_, for_range (lo := 0) (fun i σ H' => Same H H' ∧ ∃ y1 y2 y3 y4 y5 y6 y7 y8 y9 y10 y11, σ = [some (.ref a), y1, y2, y3, y4, y5, y6, y7, y8, y9, y10, y11]) ⟨Same.refl H, _, _, _, _, _, _, _, _, _, _, _, rfl⟩ ?_ ?_⟩
    · split <;> split <;> omega
    · split <;> split <;> omega
    · rintro i σ H1 hi ⟨s1, y1, y2, y3, y4, y5, y6, y7, y8, y9, y10, y11, rfl⟩
      have hi9 : i < 10 := by
        rw [List.length_map] at hi
        revert hi
        split <;> split <;> omega
      have hS1 := s1.seq hS
      refine ⟨_, rfl, _, rfl, a, ns, i, by rw [Int.zero_add]; rfl, hS1, by omega, fun p H2 np s2 B2 => ?_⟩
      have npH : H p = none := s1.free np
      -- facts
      refine ⟨fun v H' => ∃ (d : Addr) (kvs : List (Key × V)) (us : List (Str × UF)), v = .ref d ∧ H' d = some (.dK kvs) ∧ FTab K H' kvs us ∧ Nms us ∧ (∀ q ∈ us, GU q.1 q.2) ∧ Bag 3000 H' p ∧ Kp p H2 H', ?_, ?_⟩
      · refine ⟨_, rfl, ?_⟩
        refine take_of (z := 6) B2 (by decide) (by decide) (by omega) fun r3 H3 a3 b3 B3 k3 => ?_
        refine ⟨_, _, rfl, rfl, _, rfl, ?_⟩
        by_cases c : 0 < r3
        · refine iteYd c ?_
          refine ⟨_, rfl, p, 16, _, rfl, B3, by omega, by decide, by decide, fun nms ss us kvs d H4 hus hnd hnm h0 hk16 ssn ssm ssl huo hfa nd4 wd4 B4 k4 => ?_⟩
          have hul : us.length = nms.length := by
            have := congrArg List.length hus
            rw [List.length_map] at this
            exact this
          refine ⟨d, kvs, us, rfl, wd4, FactsAt.tab (K := K) hfa, ⟨by rw [hus]; exact hnd, by omega, by rw [hus]; exact hnm⟩, fun q hq => ⟨fun x hx => ?_⟩, B4.le (by omega), k3.trans k4⟩
          have ok := huo q hq
          have hx : x ∈ q.2.named := by
            first
              | exact hx
              | (unfold UF.named; exact List.mem_append_left _ hx)
          rcases (ok.mem x hx).1 with h | h
          · exact (hnm x h).ok
          · exact (ssm x h).1.ok
        · refine iteNd (by omega) fun d nd => ?_
          exact ⟨d, [], [], rfl, upd_same, .nil, ⟨List.nodup_nil, by decide, fun _ h => nomatch h⟩, (fun _ h => nomatch h), (B3.same (same_upd nd)).le (by omega), k3.trans (Kp.of (same_upd nd))⟩
      rintro v H4 ⟨d, kvs, us, rfl, wd4, ht4, hN, hgu, B4, k4⟩
      have S4 : Same H H4 := Same.own (s1.trans s2) k4 npH
      -- shelf
      refine ⟨_, rfl, d, kvs, us, rfl, wd4, ht4, hN, fun ul xs H5 nul s5 wul hU => ?_⟩
      refine fun x dx nx ndx nex => ?_
      have sn : Same H5 (upd (upd H5 dx (.own x)) x (.ins (He.ga K "Shelf") dx [])) := Same.made nx ndx fun b o e _ => e
      refine ⟨x, dx, ul, xs, us, rfl, upd_same, .inl (SqL.of (sn _ _ wul)), hU.same sn, hN, fun H6 hSh kp6 => ⟨rfl, ?_⟩⟩
      have s46 : Same H4 H6 := s5.trans (Same.made nx ndx fun b o e n => kp6 b o e n)
      have hd6 := s46 _ _ wd4
      have ht6 := FTab.same ht4 s46
      have few := hN.len
      have B6 := B4.same s46
      -- words
      refine ⟨_, rfl, d, kvs, us.map (·.1), rfl, .inl hd6, ht6.keys, by omega, fun ys l hy hs nl => ?_⟩
      obtain rfl := srt_of hy hs
      generalize hE7 : upd H6 l _ = H7
      have w7 := new_at hE7
      have s7 := new_same hE7 nl
      have B7 := B6.same s7
      have nlp : l ≠ p := fun e => by
        obtain ⟨o, ho⟩ := B6.some
        rw [← e, nl] at ho
        cases ho
      have nmW : ∀ y ∈ srt (us.map (·.1)), Nm y := fun y hy => hN.nm y (srt_mem.mp hy)
      have lenW : (srt (us.map (·.1))).length ≤ 16 := by rw [srt_len]; exact few
      -- odd things
      refine ⟨_, rfl, _, rfl, p, l, 3000, _, rfl, B7, by decide, w7, nlp, nmW, srt_nodup hN.nd, lenW, fun L os H8 nL wL fos pos hos B8 k8 => ?_⟩
      have S7 : Same H H7 := S4.trans (s46.trans s7)
      have nLH : H L = none := S7.free nL
      have nLp : L ≠ p := fun e => by
        obtain ⟨o, ho⟩ := B7.some
        rw [← e, nL] at ho
        cases ho
      have hS7 : ShelfAt K H7 x us := hSh.same s7
      have hd7 := s7 _ _ hd6
      have ht7 := FTab.same ht6 s7
      have ndp : d ≠ p := fun e => by
        obtain ⟨_, _, _, hq, _⟩ := B7.ex
        rw [e, hq] at hd7
        cases hd7
      have k8' := k8
      have S8 : Same H H8 := Same.own S7 k8 npH
      have nldL : ∀ {b : Addr} {o : HO}, H7 b = some o → b ≠ L := fun e z => by rw [z, nL] at e; cases e
      have hS8 : ShelfAt K H8 x us := hS7.keepB k8 B7
      have ht8 : FTab K H8 kvs us := by
        obtain ⟨_, _, _, hq, _⟩ := B7.ex
        exact FTab.keep ht7 k8 (.lst hq)
      -- for turn
      refine ⟨_, rfl, L, _, rfl, .inl (SqL.of wL), _, rfl, by omega, by omega, for_range (lo := 0) (n := (os.length : Int).toNat) (fun m σ H' => ∃ (xs' : List V) (y7 y8 y9 y10 : Option V), σ = [some (.ref a), some (.int (0 + (i : Int))), some (.ref p), some (.ref d), some (.ref x), some (.ref l), some (.ref L), y7, y8, y9, y10, y11] ∧ xs'.length + m = os.length ∧ H' L = some (.lst xs') ∧ (∀ v ∈ xs', Thing K H' p L (srt (us.map (·.1))) v) ∧ Bag (3200 + 20 * m) H' p ∧ Same H H' ∧ H' l = some (.lst ((srt (us.map (·.1))).map V.str)) ∧ H' d = some (.dK kvs) ∧ FTab K H' kvs us ∧ ShelfAt K H' x us) ⟨os, _, _, _, _, rfl, by omega, wL, hos, B8.le (by omega), S8, k8 _ _ w7 nlp, k8 _ _ hd7 ndp, ht8, hS8⟩ ?_ ?_⟩
      · rintro m σ H9 hm ⟨xs', y7, y8, y9, y10, rfl, len9, wL9, all9, B9, S9, wl9, hd9, ht9, hS9⟩
        have hm' : m < os.length := by omega
        have pos9 : 0 < xs'.length := by omega
        refine ⟨_, rfl, .inl ⟨rfl, _, SqL.of wL9⟩, _, rfl, _, rfl, L, _, rfl, .inl (SqL.of wL9), ?_⟩
        refine take_of (z := (xs'.length : Int)) B9 (by omega) (by omega) (by omega) fun r10 H10 a10 b10 B10 k10 => ?_
        obtain ⟨j, rfl⟩ := Int.eq_ofNat_of_zero_le a10
        have hj : j < xs'.length := by omega
        have wL10 := k10 _ _ wL9 nLp
        have wl10 := k10 _ _ wl9 nlp
        have hd10 := k10 _ _ hd9 ndp
        have S10 : Same H H10 := Same.own S9 k10 npH
        have hS10 : ShelfAt K H10 x us := hS9.keepB k10 B9
        have ht10 : FTab K H10 kvs us := by
          obtain ⟨_, _, _, hq, _⟩ := B9.ex
          exact FTab.keep ht9 k10 (.lst hq)
        obtain ⟨one, hone⟩ : ∃ v, xs'[j]? = some v := ⟨_, List.getElem?_eq_getElem hj⟩
        refine ⟨L, _, _, j, one, rfl, rfl, wL10, by omega, by omega, seq_ix a10 b10, hone, ?_⟩
        generalize hE11 : upd H10 L _ = H11
        have wL11 := new_at hE11
        have m11 := mut_keep hE11
        have S11 : Same H H11 := Same.own S10 m11 nLH
        have nlL : l ≠ L := fun e => by rw [e, nL] at w7; cases w7
        have ndL : d ≠ L := nldL hd7
        have B11 := B10.keep m11 nLp.symm
        have hS11 : ShelfAt K H11 x us := hS10.keepL m11 wL10
        have ht11 : FTab K H11 kvs us := FTab.keep ht10 m11 (.lst wL10)
        have wl11 := m11 _ _ wl10 nlL
        have hd11 := m11 _ _ hd10 ndL
        have thk : ∀ {H1 H2 : Hp} {v : V}, (∀ b o, b ≠ p → b ≠ L → H1 b = some o → H2 b = some o) → Thing K H1 p L (srt (us.map (·.1))) v → Thing K H2 p L (srt (us.map (·.1))) v := fun k ⟨d, n, h1, h2⟩ => by
          refine ⟨d, n, Dp_same (fun b o e => ?_) h1, h2⟩
          by_cases c1 : b = L
          · rw [c1, del_same] at e
            cases e
          · rw [del_ne c1] at e ⊢
            by_cases c2 : b = p
            · rw [c2, del_same] at e
              cases e
            · rw [del_ne c2] at e ⊢
              exact k b o c2 c1 e
        have all11 : ∀ v ∈ xs'.eraseIdx j, Thing K H11 p L (srt (us.map (·.1))) v := fun v hv => thk (fun b o n1 n2 e => m11 _ _ (k10 _ _ e n1) n2) (all9 v (List.mem_of_mem_eraseIdx hv))
        obtain ⟨d0, n0, hd0, odd0, few0, asc0, no0⟩ := thk (H2 := H11) (fun b o n1 n2 e => m11 _ _ (k10 _ _ e n1) n2) (all9 _ (List.mem_of_getElem? hone))
        have hd0' : Dp K H11 one d0 := Dp_same (del_sub.trans del_sub) hd0
        have nod : ∀ kvs, d0 ≠ .dict kvs := fun kvs z => by
          subst z
          cases hd0'
        have no : NoName K H11 us one d0 n0 := ⟨hd0', odd0, few0, fun w hw => no0 w (srt_mem.mpr hw)⟩
        have isno : isNm us d0 = false := isNm_no no.2.2.2
        obtain ⟨dxs, dds, ks, hps, _⟩ := id hS11
        refine ⟨_, rfl, x, dxs, _, rfl, hps, rfl, _, rfl, x, one, d0, us, rfl, hS11, hN, hd0', nod, _, _, rfl, rfl, ?_⟩
        rw [isno]
        refine ⟨_, rfl, iteF ?_⟩
        refine ⟨_, rfl, x, dxs, _, rfl, hps, rfl, _, rfl, rfl, x, one, d0, us, rfl, hS11, hN, hd0', nod, _, _, rfl, rfl, ?_⟩
        rw [isno]
        refine ⟨_, rfl, iteF ?_⟩
        refine ⟨_, rfl, ?_⟩
        refine take_of (z := 4) B11 (by decide) (by decide) (by omega) fun r12 H12 a12 b12 B12 k12 => ?_
        obtain ⟨j12, rfl⟩ := Int.eq_ofNat_of_zero_le a12
        have S12 : Same H H12 := Same.own S11 k12 npH
        have wL12 := k12 _ _ wL11 nLp
        have wl12 := k12 _ _ wl11 nlp
        have hd12 := k12 _ _ hd11 ndp
        have hS12 : ShelfAt K H12 x us := hS11.keepB k12 B11
        have ht12 : FTab K H12 kvs us := by
          obtain ⟨_, _, _, hq, _⟩ := B11.ex
          exact FTab.keep ht11 k12 (.lst hq)
        have all12 : ∀ v ∈ xs'.eraseIdx j, Thing K H12 p L (srt (us.map (·.1))) v := fun v hv => thk (fun b o n1 n2 e => k12 _ _ e n1) (all11 v hv)
        obtain ⟨d0', n0', h0', o0', f0', a0', no0'⟩ := thk (H2 := H12) (fun b o n1 n2 e => k12 _ _ e n1) (show Thing K H11 p L (srt (us.map (·.1))) one from ⟨d0, n0, hd0, odd0, few0, asc0, no0⟩)
        have h0' : Dp K H12 one d0' := Dp_same (del_sub.trans del_sub) h0'
        have no12 : NoName K H12 us one d0' n0' := ⟨h0', o0', f0', fun w hw => no0' w (srt_mem.mpr hw)⟩
        have sT : SeqAt.shaped (.tuple [.str (Str.ofString "unit"), .str d0'.shown, .bool true]) = true := by
          have := (asc_shown a0').ok
          refine Bool.and_eq_true_iff.mpr ⟨?_, decide_eq_true ?_⟩
          · simp only [PyData.canLay0, PyData.canLayAll0, this, show PyData.strOk (Str.ofString "unit") = true from by decide +kernel, Bool.and_self]
          · simp [PyData.depth, PyData.depthAll]
        refine ⟨_, rfl, by decide, by decide, for_range (lo := 0) (n := (4 : Int).toNat) (fun t σ H' => Same H12 H' ∧ ∃ y10, σ = [some (.ref a), some (.int (0 + (i : Int))), some (.ref p), some (.ref d), some (.ref x), some (.ref l), some (.ref L), some (.int (0 + (m : Int))), some one, some (.int (j12 : Int)), y10, y11]) ⟨Same.refl _, _, rfl⟩ ?_ ?_⟩
        · rintro t σ H13 ht ⟨s13, y10, rfl⟩
          have e : ((0 + (t : Int)) + (j12 : Int)) % 4 = (((t + j12) % 4 : Nat) : Int) := by omega
          refine ⟨_, rfl, _, rfl, _, rfl, _, _, rfl, rfl, _, _, rfl, rfl, (show (0 : Int) < 4 by decide), _, rfl, x, one, d0', n0', (t + j12) % 4, us, by rw [← e], Nat.mod_lt _ (by decide), hS12.same s13, hN, no12.same s13, fun tp H14 s14 wt => ?_⟩
          have s1214 := s13.trans s14
          refine ⟨_, rfl, one, d0', n0', rfl, Dp_same s1214 h0', o0', f0', by show 3 ≤ sizeLine; decide, fun t2 n2 => ?_⟩
          generalize hE15 : upd H14 t2 _ = H15
          have w15 := new_at hE15
          have s15 := new_same hE15 n2
          refine neD_alike (.tup (SqT.of (s15 _ _ wt)) (.cons (.str _) (.cons (.str _) (.cons (.bl _) .nil)))) (.tup (SqT.of w15) (.cons (.str _) (.cons (.str _) (.cons (.bl _) .nil)))) sT ⟨_, rfl, iteF ?_⟩
          exact ⟨s1214.trans s15, _, rfl⟩
        · rintro σ H13 ⟨s13, y10, rfl⟩
          refine ⟨xs'.eraseIdx j, _, _, _, _, rfl, ?_, s13 _ _ wL12, fun v hv => thk (fun b o _ _ e => s13 _ _ e) (all12 v hv), (B12.same s13).le (by omega), S12.trans s13, s13 _ _ wl12, s13 _ _ hd12, FTab.same ht12 s13, hS12.same s13⟩
          rw [List.length_eraseIdx_of_lt hj]
          omega
      · rintro σ H9 ⟨xs', y7, y8, y9, y10, rfl, len9, wL9, all9, B9, S9, wl9, hd9, ht9, hS9⟩
        obtain ⟨dxs, dds, ks, hps, _⟩ := id hS9
        have okW : ∀ y ∈ srt (us.map (·.1)), PyData.strOk y = true := fun y hy => (nmW y hy).ok
        refine ⟨_, rfl, x, dxs, _, rfl, hps, rfl, x, us, rfl, hS9, hN, fun l10 H10 n10 s10 w10 => ?_⟩
        refine ⟨_, rfl, ?_⟩
        refine neD_strs (SqL.of w10) (SqL.of (s10 _ _ wl9)) okW okW ⟨_, rfl, ?_⟩
        rw [decide_eq_true rfl]
        refine iteF ?_
        have S10 : Same H H10 := S9.trans s10
        have hS10 := hS9.same s10
        have hps10 := s10 _ _ hps
        have wl10 := s10 _ _ wl9
        have hd10 := s10 _ _ hd9
        have ht10 := FTab.same ht9 s10
        have getW : ∀ {j : Nat} {v : V}, ((srt (us.map (·.1))).map V.str)[j]? = some v → ∃ o, (srt (us.map (·.1)))[j]? = some o ∧ v = .str o ∧ o ∈ us.map (·.1) := fun h => by
          obtain ⟨o, ho, rfl⟩ := map_str_get h
          exact ⟨o, ho, rfl, srt_mem.mp (List.mem_of_getElem? ho)⟩
        refine ⟨_, rfl, l, rfl, ⟨_, SqL.of wl10⟩, fun D nD => ?_⟩
        refine lc_list (xs := (srt (us.map (·.1))).map V.str) (fun t H' => Same H10 H' ∧ H' D = some (.lst ((List.replicate t true).map V.bl))) ⟨same_upd nD, upd_same⟩ (fun t H' _ h => SqL.of (h.1 _ _ wl10)) ?_ ?_
        · rintro t v H11 ht ⟨s11, w11⟩
          obtain ⟨o, ho, rfl, hom⟩ := getW ht
          have lt : t < 16 := by
            rw [List.getElem?_eq_some_iff] at ho
            have := ho.1
            omega
          refine ⟨rfl, yes_of (iteT ⟨_, rfl, x, dxs, _, rfl, s11 _ _ hps10, rfl, _, rfl, x, .str o, .str o, us, rfl, hS10.same s11, hN, .str o, (fun _ z => nomatch z), _, _, rfl, rfl, _, w11, ?_, Same.own (q := D) (H1 := H11) s11 (mut_keep rfl) nD, ?_⟩)⟩
          · rw [List.length_map, List.length_replicate]
            exact small1000 (by omega)
          · rw [upd_same, List.replicate_succ', List.map_append, show isNm us (.str o) = true from decide_eq_true hom]
            rfl
        rintro H11 ⟨s11, w11⟩
        refine ⟨D, _, rfl, SqL.of w11, ?_⟩
        rw [show (List.replicate ((srt (us.map (·.1))).map V.str).length true).all id = true from List.all_eq_true.mpr fun b hb => List.eq_of_mem_replicate hb]
        refine ⟨true, rfl, iteF ?_⟩
        have S11 := S10.trans s11
        have hS11 := hS10.same s11
        have hps11 := s11 _ _ hps10
        have wl11 := s11 _ _ wl10
        have hd11 := s11 _ _ hd10
        have ht11 := FTab.same ht10 s11
        -- the units told
        refine ⟨_, rfl, l, rfl, ⟨_, SqL.of wl11⟩, fun D1 nD1 => ?_⟩
        refine lc_list (xs := (srt (us.map (·.1))).map V.str) (fun t H' => Same H11 H' ∧ ∃ ps : List Addr, H' D1 = some (.lst (ps.map V.ref)) ∧ ps.length = t ∧ ∀ (j : Nat) (o : Str) (q : Addr), (srt (us.map (·.1)))[j]? = some o → ps[j]? = some q → ∃ u, (o, u) ∈ us ∧ UnitAt K H' q o u) ⟨same_upd nD1, [], upd_same, rfl, fun j o q _ h => by simp at h⟩ (fun t H' _ h => SqL.of (h.1 _ _ wl11)) ?_ ?_
        · rintro t v H12 ht ⟨s12, ps, w12, lp, each⟩
          obtain ⟨o, ho, rfl, hom⟩ := getW ht
          have lt : t < 16 := by
            rw [List.getElem?_eq_some_iff] at ho
            have := ho.1
            omega
          refine ⟨rfl, yes_of (iteT ⟨_, rfl, x, dxs, _, rfl, s12 _ _ hps11, rfl, _, rfl, x, .str o, us, rfl, hS11.same s12, hN, .inl ⟨o, rfl, hom, fun q u hu hA => ?_⟩⟩)⟩
          refine ⟨_, w12, by rw [List.length_map, lp]; exact small1000 (by omega), Same.own (q := D1) (H1 := H12) s12 (mut_keep rfl) nD1, ps ++ [q], by rw [upd_same, List.map_append]; rfl, by rw [List.length_append, lp]; rfl, fun j o' q' h1 h2 => ?_⟩
          by_cases c : j < t
          · rw [List.getElem?_append_left (by omega)] at h2
            obtain ⟨u', hu', hA'⟩ := each j o' q' h1 h2
            exact ⟨u', hu', hA'.keepN (mut_keep rfl) (.lst w12) (.lst w12)⟩
          · have c' : j = t := by
              rw [List.getElem?_eq_some_iff] at h2
              have := h2.1
              rw [List.length_append, lp] at this
              have : j < t + 1 := this
              omega
            subst c'
            rw [ho] at h1
            cases h1
            rw [← lp, List.getElem?_append_right (Nat.le_refl _), Nat.sub_self] at h2
            cases h2
            exact ⟨u, hu, hA.keepN (mut_keep rfl) (.lst w12) (.lst w12)⟩
        rintro H12 ⟨s12, ps, w12, lp, each⟩
        rw [List.length_map] at lp
        have S12 := S11.trans s12
        have hd12 := s12 _ _ hd11
        have ht12 := FTab.same ht11 s12
        have wl12 := s12 _ _ wl11
        refine ⟨_, rfl, l, rfl, ⟨_, SqL.of wl12⟩, fun D2 nD2 => ?_⟩
        refine lc_list (xs := (srt (us.map (·.1))).map V.str) (fun t H' => Same H12 H' ∧ ∃ qs : List Addr, H' D2 = some (.lst (qs.map V.ref)) ∧ qs.length = t ∧ ∀ (j : Nat) (o : Str) (q : Addr), (srt (us.map (·.1)))[j]? = some o → qs[j]? = some q → H12 q = none ∧ ∃ u, (o, u) ∈ us ∧ UnitAt K H' q o u) ⟨same_upd nD2, [], upd_same, rfl, fun j o q _ h => by simp at h⟩ (fun t H' _ h => SqL.of (h.1 _ _ wl12)) ?_ ?_
        · rintro t v H13 ht ⟨s13, qs, w13, lq, eachq⟩
          obtain ⟨o, ho, rfl, hom⟩ := getW ht
          have lt : t < 16 := by
            rw [List.getElem?_eq_some_iff] at ho
            have := ho.1
            omega
          obtain ⟨u, hu⟩ : ∃ u, (o, u) ∈ us := by
            obtain ⟨r, hr, rfl⟩ := List.mem_map.mp hom
            exact ⟨r.2, hr⟩
          have ht13 := FTab.same ht12 s13
          obtain ⟨v2, hv2, r2⟩ := ht13.get hN.nd (o, u) hu
          refine ⟨rfl, yes_of (iteT ⟨_, rfl, _, rfl, o, d, v2, u, rfl, by rw [← hv2]; exact DGet.k (k := Sum.inr o) (s13 _ _ hd12), r2, fun q H14 nq s14 hA => ?_⟩)⟩
          have w14 := s14 _ _ w13
          refine ⟨_, w14, by rw [List.length_map, lq]; exact small1000 (by omega), Same.own (q := D2) (H1 := H14) (s13.trans s14) (mut_keep rfl) nD2, qs ++ [q], by rw [upd_same, List.map_append]; rfl, by rw [List.length_append, lq]; rfl, fun j o' q' h1 h2 => ?_⟩
          by_cases c : j < t
          · rw [List.getElem?_append_left (by omega)] at h2
            obtain ⟨n', u', hu', hA'⟩ := eachq j o' q' h1 h2
            exact ⟨n', u', hu', (hA'.same s14).keepN (mut_keep rfl) (.lst w14) (.lst w14)⟩
          · have c' : j = t := by
              rw [List.getElem?_eq_some_iff] at h2
              have := h2.1
              rw [List.length_append, lq] at this
              have : j < t + 1 := this
              omega
            subst c'
            rw [ho] at h1
            cases h1
            rw [← lq, List.getElem?_append_right (Nat.le_refl _), Nat.sub_self] at h2
            cases h2
            exact ⟨s13.free nq, u, hu, hA.keepN (mut_keep rfl) (.lst w14) (.lst w14)⟩
        rintro H13 ⟨s13, qs, w13, lq, eachq⟩
        rw [List.length_map] at lq
        refine ⟨D1, D2, ps, qs, rfl, rfl, s13 _ _ w12, w13, by omega, fun j pa qa hp hq H14 s14 => ?_, fun H14 s14 => ⟨_, rfl, iteF ⟨S12.trans (s13.trans s14), _, _, _, _, _, _, _, _, _, _, _, rfl⟩⟩⟩
        have ljw : j < (srt (us.map (·.1))).length := by
          rw [List.getElem?_eq_some_iff] at hp
          have := hp.1
          omega
        obtain ⟨o, ho⟩ : ∃ o, (srt (us.map (·.1)))[j]? = some o := ⟨_, List.getElem?_eq_getElem ljw⟩
        obtain ⟨u1, hu1, hA1⟩ := each j o pa ho hp
        obtain ⟨nq, u2, hu2, hA2⟩ := eachq j o qa ho hq
        have eu : u1 = u2 := Option.some.inj ((fu_some hN.nd hu1).symm.trans (fu_some hN.nd hu2))
        subst eu
        have apart : pa ≠ qa := fun e => by
          obtain ⟨_, _, _, _, _, _, h1, _⟩ := id hA1
          rw [e, nq] at h1
          cases h1
        exact eqU T (hA1.same (s13.trans s14)) (hA2.same s14) (hgu _ hu1).st apart ⟨rfl, Same.refl _⟩
    · rintro σ H1 ⟨s1, y1, y2, y3, y4, y5, y6, y7, y8, y9, y10, y11, rfl⟩
      exact q _

-- SPLIT
-- SPLIT
end
theorem kb_Rule_init_1_first_times_top_burst_span_mk {K : PySem.W.Frag} {f : Addr} {fd : FuncData} (F : FunD K "__init__" "Rule.__init__" (defArgs s_Rule_init) (defBody s_Rule_init) (defScope s_Rule_init) [] [("first", V.int 1), ("times", V.int 2), ("top", V.int 64), ("burst", V.int 5), ("span", V.int 100)] f fd) : ∃ gg, KBn K fd ["self", "first", "times", "top", "burst", "span"] 1 ["first", "times", "top", "burst", "span"] gg (fun us ws => us ++ (ws.drop 0).take 1 ++ (ws.drop 1).take 1 ++ (ws.drop 2).take 1 ++ (ws.drop 3).take 1 ++ (ws.drop 4).take 1) := by
  obtain ⟨mv, h⟩ := F.kbinds0 (ps := ["self", "first", "times", "top", "burst", "span"]) 1 ["first", "times", "top", "burst", "span"] [] (fun us mv ws => us ++ (ws.drop 0).take 1 ++ (ws.drop 1).take 1 ++ (ws.drop 2).take 1 ++ (ws.drop 3).take 1 ++ (ws.drop 4).take 1) (by intro z; cases z) (by simp) (fun r1 r2 r3 => (((((r1.append (vals_take ((r3).drop 0) 1)).append (vals_take ((r3).drop 1) 1)).append (vals_take ((r3).drop 2) 1)).append (vals_take ((r3).drop 3) 1)).append (vals_take ((r3).drop 4) 1))) (fun D doc pm an cdv ct us mv ws h1 h2 h3 => match us, mv, ws, h1, h2, h3 with | [_], [], [_, _, _, _, _], _, _, _ => rfl)
  exact ⟨_, h⟩
theorem kb_Unit_init_2_kind_needs_wants_bars_after_opens_rule_mk {K : PySem.W.Frag} {f : Addr} {fd : FuncData} (F : FunD K "__init__" "Unit.__init__" (defArgs s_Unit_init) (defBody s_Unit_init) (defScope s_Unit_init) [] [("kind", V.str "work"), ("needs", V.ref (UO.kwAdr K ("Unit", some "__init__") "needs")), ("wants", V.ref (UO.kwAdr K ("Unit", some "__init__") "wants")), ("bars", V.ref (UO.kwAdr K ("Unit", some "__init__") "bars")), ("after", V.ref (UO.kwAdr K ("Unit", some "__init__") "after")), ("opens", V.non), ("rule", V.non)] f fd) : ∃ gg, KBn K fd ["self", "name", "kind", "needs", "wants", "bars", "after", "opens", "rule"] 2 ["kind", "needs", "wants", "bars", "after", "opens", "rule"] gg (fun us ws => us ++ (ws.drop 0).take 1 ++ (ws.drop 1).take 1 ++ (ws.drop 2).take 1 ++ (ws.drop 3).take 1 ++ (ws.drop 4).take 1 ++ (ws.drop 5).take 1 ++ (ws.drop 6).take 1) := by
  obtain ⟨mv, h⟩ := F.kbinds0 (ps := ["self", "name", "kind", "needs", "wants", "bars", "after", "opens", "rule"]) 2 ["kind", "needs", "wants", "bars", "after", "opens", "rule"] [] (fun us mv ws => us ++ (ws.drop 0).take 1 ++ (ws.drop 1).take 1 ++ (ws.drop 2).take 1 ++ (ws.drop 3).take 1 ++ (ws.drop 4).take 1 ++ (ws.drop 5).take 1 ++ (ws.drop 6).take 1) (by intro z; cases z) (by simp) (fun r1 r2 r3 => (((((((r1.append (vals_take ((r3).drop 0) 1)).append (vals_take ((r3).drop 1) 1)).append (vals_take ((r3).drop 2) 1)).append (vals_take ((r3).drop 3) 1)).append (vals_take ((r3).drop 4) 1)).append (vals_take ((r3).drop 5) 1)).append (vals_take ((r3).drop 6) 1))) (fun D doc pm an cdv ct us mv ws h1 h2 h3 => match us, mv, ws, h1, h2, h3 with | [_, _], [], [_, _, _, _, _, _, _], _, _, _ => rfl)
  exact ⟨_, h⟩
theorem kb_Shelf_has_1_name_mk {K : PySem.W.Frag} {f : Addr} {fd : FuncData} (F : FunD K "has" "Shelf.has" (defArgs s_Shelf_has) (defBody s_Shelf_has) (defScope s_Shelf_has) [] [] f fd) : ∃ gg, KBn K fd ["self", "name"] 1 ["name"] gg (fun us ws => us ++ (ws.drop 0).take 1) := by
  obtain ⟨oc, od, dV, kV, doc, pm, an, cdv, ct, osl, rfl, lk, hcd, hD, hK⟩ := F.ex
  rcases hD with ⟨_, rfl⟩ | ⟨e, _⟩
  · refine ⟨fun us ws => us ++ (ws.drop 0).take 1, ⟨fun s us ws X l1 l2 => ?_, fun r1 r3 => (r1.append (vals_take ((r3).drop 0) 1))⟩⟩
    match us, ws, l1, l2 with | [_], [_], _, _ => exact .of_eq rfl
  · exact absurd rfl e
def dd_own_copy : He.DefD := ⟨("own_copy", none), "own_copy", "own_copy", defArgs s_own_copy, defBody s_own_copy, defScope s_own_copy, [], []⟩
def dd_NoUnit_init : He.DefD := ⟨("NoUnit", some "__init__"), "__init__", "NoUnit.__init__", defArgs s_NoUnit_init, defBody s_NoUnit_init, defScope s_NoUnit_init, [], []⟩
def dd_Shelf_init : He.DefD := ⟨("Shelf", some "__init__"), "__init__", "Shelf.__init__", defArgs s_Shelf_init, defBody s_Shelf_init, defScope s_Shelf_init, [.adr (He.dflAt ("Shelf", some "__init__") 0)], []⟩
def dd_Shelf_names : He.DefD := ⟨("Shelf", some "names"), "names", "Shelf.names", defArgs s_Shelf_names, defBody s_Shelf_names, defScope s_Shelf_names, [], []⟩
def dd_Shelf_has : He.DefD := ⟨("Shelf", some "has"), "has", "Shelf.has", defArgs s_Shelf_has, defBody s_Shelf_has, defScope s_Shelf_has, [], []⟩
def dd_Shelf_unit : He.DefD := ⟨("Shelf", some "unit"), "unit", "Shelf.unit", defArgs s_Shelf_unit, defBody s_Shelf_unit, defScope s_Shelf_unit, [], []⟩
def dd_Shelf_needing : He.DefD := ⟨("Shelf", some "needing"), "needing", "Shelf.needing", defArgs s_Shelf_needing, defBody s_Shelf_needing, defScope s_Shelf_needing, [], []⟩
def dd_Shelf_barred : He.DefD := ⟨("Shelf", some "barred"), "barred", "Shelf.barred", defArgs s_Shelf_barred, defBody s_Shelf_barred, defScope s_Shelf_barred, [], []⟩
def dd_Shelf_waited : He.DefD := ⟨("Shelf", some "waited"), "waited", "Shelf.waited", defArgs s_Shelf_waited, defBody s_Shelf_waited, defScope s_Shelf_waited, [], []⟩
def dd_Rule_init : He.DefD := ⟨("Rule", some "__init__"), "__init__", "Rule.__init__", defArgs s_Rule_init, defBody s_Rule_init, defScope s_Rule_init, [], [("first", .int 1), ("times", .int 2), ("top", .int 64), ("burst", .int 5), ("span", .int 100)]⟩
def dd_Rule_eq : He.DefD := ⟨("Rule", some "__eq__"), "__eq__", "Rule.__eq__", defArgs s_Rule_eq, defBody s_Rule_eq, defScope s_Rule_eq, [], []⟩
def dd_Unit_init : He.DefD := ⟨("Unit", some "__init__"), "__init__", "Unit.__init__", defArgs s_Unit_init, defBody s_Unit_init, defScope s_Unit_init, [], [("kind", .str "work"), ("needs", .adr (fun K => UO.kwAdr K ("Unit", some "__init__") "needs")), ("wants", .adr (fun K => UO.kwAdr K ("Unit", some "__init__") "wants")), ("bars", .adr (fun K => UO.kwAdr K ("Unit", some "__init__") "bars")), ("after", .adr (fun K => UO.kwAdr K ("Unit", some "__init__") "after")), ("opens", .non), ("rule", .non)]⟩
def dd_Unit_eq : He.DefD := ⟨("Unit", some "__eq__"), "__eq__", "Unit.__eq__", defArgs s_Unit_eq, defBody s_Unit_eq, defScope s_Unit_eq, [], []⟩
def dd_law_bag : He.DefD := ⟨("_law_bag", none), "_law_bag", "_law_bag", defArgs s_law_bag, defBody s_law_bag, defScope s_law_bag, [], []⟩
def dd_law_take : He.DefD := ⟨("_law_take", none), "_law_take", "_law_take", defArgs s_law_take, defBody s_law_take, defScope s_law_take, [], []⟩
def dd_law_name : He.DefD := ⟨("_law_name", none), "_law_name", "_law_name", defArgs s_law_name, defBody s_law_name, defScope s_law_name, [], []⟩
def dd_law_names : He.DefD := ⟨("_law_names", none), "_law_names", "_law_names", defArgs s_law_names, defBody s_law_names, defScope s_law_names, [], []⟩
def dd_law_kind : He.DefD := ⟨("_law_kind", none), "_law_kind", "_law_kind", defArgs s_law_kind, defBody s_law_kind, defScope s_law_kind, [], []⟩
def dd_law_any : He.DefD := ⟨("_law_any", none), "_law_any", "_law_any", defArgs s_law_any, defBody s_law_any, defScope s_law_any, [], []⟩
def dd_law_rule_parts : He.DefD := ⟨("_law_rule_parts", none), "_law_rule_parts", "_law_rule_parts", defArgs s_law_rule_parts, defBody s_law_rule_parts, defScope s_law_rule_parts, [], []⟩
def dd_law_rule : He.DefD := ⟨("_law_rule", none), "_law_rule", "_law_rule", defArgs s_law_rule, defBody s_law_rule, defScope s_law_rule, [], []⟩
def dd_law_some : He.DefD := ⟨("_law_some", none), "_law_some", "_law_some", defArgs s_law_some, defBody s_law_some, defScope s_law_some, [], []⟩
def dd_law_facts : He.DefD := ⟨("_law_facts", none), "_law_facts", "_law_facts", defArgs s_law_facts, defBody s_law_facts, defScope s_law_facts, [], []⟩
def dd_law_unit : He.DefD := ⟨("_law_unit", none), "_law_unit", "_law_unit", defArgs s_law_unit, defBody s_law_unit, defScope s_law_unit, [], []⟩
def dd_law_units : He.DefD := ⟨("_law_units", none), "_law_units", "_law_units", defArgs s_law_units, defBody s_law_units, defScope s_law_units, [], []⟩
def dd_law_how : He.DefD := ⟨("_law_how", none), "_law_how", "_law_how", defArgs s_law_how, defBody s_law_how, defScope s_law_how, [], []⟩
def dd_law_odd_things : He.DefD := ⟨("_law_odd_things", none), "_law_odd_things", "_law_odd_things", defArgs s_law_odd_things, defBody s_law_odd_things, defScope s_law_odd_things, [], []⟩
def dd_law : He.DefD := ⟨("law", none), "law", "law", defArgs s_law, defBody s_law, defScope s_law, [], []⟩
def fn : List He.DefD := [dd_own_copy, dd_NoUnit_init, dd_Shelf_init, dd_Shelf_names, dd_Shelf_has, dd_Shelf_unit, dd_Shelf_needing, dd_Shelf_barred, dd_Shelf_waited, dd_Rule_init, dd_Rule_eq, dd_Unit_init, dd_Unit_eq, dd_law_bag, dd_law_take, dd_law_name, dd_law_names, dd_law_kind, dd_law_any, dd_law_rule_parts, dd_law_rule, dd_law_some, dd_law_facts, dd_law_unit, dd_law_units, dd_law_how, dd_law_odd_things, dd_law]
def fa : List He.Fa := [.glo "own_copy", .meth "Shelf" "names", .meth "Shelf" "has", .meth "Shelf" "unit", .meth "Shelf" "needing", .meth "Shelf" "barred", .meth "Shelf" "waited", .meth "Rule" "__eq__", .meth "Unit" "__eq__", .glo "_law_bag", .glo "_law_take", .glo "_law_name", .glo "_law_names", .glo "_law_kind", .glo "_law_any", .glo "_law_rule_parts", .glo "_law_rule", .glo "_law_some", .glo "_law_facts", .glo "_law_unit", .glo "_law_units", .glo "_law_how", .glo "_law_odd_things", .glo "law", .glo "Shelf", .cls "Shelf", .mkr "Shelf", .noat "Shelf" "by_name", .glo "Rule", .cls "Rule", .mkr "Rule", .noat "Rule" "first", .noat "Rule" "times", .noat "Rule" "top", .noat "Rule" "burst", .noat "Rule" "span", .glo "Unit", .cls "Unit", .mkr "Unit", .noat "Unit" "name", .noat "Unit" "kind", .noat "Unit" "needs", .noat "Unit" "wants", .noat "Unit" "bars", .noat "Unit" "after", .noat "Unit" "opens", .noat "Unit" "rule", .glo "NoUnit", .glo "NoTick", .glo "NotReady", .glo "NotBegun", .glo "NotOn", .glo "Running", .glo "NoDoor", .glo "Full", .glo "NoText", .glo "NoRow", .glo "Lack", .glo "Clash", .glo "Knot", .glo "NoShelf", .glo "UnitError", .int "MOST" 16, .free "isinstance", .free "list", .free "tuple", .free "KeyError", .free "len", .free "sorted", .free "str", .free "abs", .free "int", .free "range", .free "ValueError", .free "repr", .free "max", .free "min", .free "all"]
abbrev R : PySem.W.OpenRow := PySem.W.OpenLaw.row PySem.Challenge.rw_unitwants_k23_names_of_none
def exB (K : PySem.W.Frag) : Bool := UO.insB "Unit" K && UO.insB "Rule" K && UO.tup0B K (UO.kwAdr K ("Unit", some "__init__") "needs") && UO.tup0B K (UO.kwAdr K ("Unit", some "__init__") "wants") && UO.tup0B K (UO.kwAdr K ("Unit", some "__init__") "bars") && UO.tup0B K (UO.kwAdr K ("Unit", some "__init__") "after") && UO.pairB "Unit" "Rule" K && UO.pairB "Rule" "Unit" K && UO.tup0B K (He.dflAt ("Shelf", some "__init__") 0 K) && UX.ownB K (He.ga K "NoUnit") (He.fAd K ("NoUnit", some "__init__")) UE.keTail "LookupError.__new__" && UX.asksB K (He.ga K "NoUnit") && UX.noB K (He.ga K "NoUnit") "name" && UX.kitB K (He.ga K "NoUnit") (.ref (He.ga K "NoUnit")) true && UX.kitB K (He.ga K "NoUnit") (.ref (He.ga K "NoTick")) false && UX.kitB K (He.ga K "NoUnit") (.ref (He.ga K "NotReady")) false && UX.kitB K (He.ga K "NoUnit") (.ref (He.ga K "NotBegun")) false && UX.kitB K (He.ga K "NoUnit") (.ref (He.ga K "NotOn")) false && UX.kitB K (He.ga K "NoUnit") (.ref (He.ga K "Running")) false && UX.kitB K (He.ga K "NoUnit") (.ref (He.ga K "NoDoor")) false && UX.kitB K (He.ga K "NoUnit") (.ref (He.ga K "Full")) false && UX.kitB K (He.ga K "NoUnit") (.ref (He.ga K "NoText")) false && UX.kitB K (He.ga K "NoUnit") (.ref (He.ga K "NoRow")) false && UX.kitB K (He.ga K "NoUnit") (.ref (He.ga K "Lack")) false && UX.kitB K (He.ga K "NoUnit") (.ref (He.ga K "Clash")) false && UX.kitB K (He.ga K "NoUnit") (.ref (He.ga K "Knot")) false && UX.kitB K (He.ga K "NoUnit") (.ref (He.ga K "NoShelf")) false && UX.kitB K (He.ga K "NoUnit") (.ref (He.ga K "UnitError")) false && UX.kitB K (He.ga K "NoUnit") (.type "ValueError") false && UX.kitB K (He.ga K "NoUnit") (.type "KeyError") true && UX.viB K "KeyError" "KeyError.__init__"
abbrev hk : PySem.W.Hook := UO.hookB 6 fa fn exB
def ob (s : PySem.W.SharedT) : UO.AlB := UO.obsB 6 fa fn exB (HandSHeadRun.getT s)
theorem ob_eq (s : PySem.W.SharedT) : ob s = hk.obs s.abs := UO.obsB_eq (HandSHeadRun.getT_eq s)
set_option maxHeartbeats 0 in
theorem run (w : World) : HandSHeadRun.RunEq R (PySem.W.view R.prog [40]) hk ob 8000 ("_wall" :: "own_copy" :: "UnitError" :: "NoTick" :: "NotReady" :: "NotBegun" :: "NotOn" :: "Running" :: "NoDoor" :: "Full" :: "NoText" :: "NoRow" :: "Lack" :: "Clash" :: "Knot" :: "NoUnit" :: "NoShelf" :: "Shelf" :: "Rule" :: "Unit" :: "_law_bag" :: "_law_take" :: "_law_name" :: "_law_names" :: "_law_kind" :: "_law_any" :: "_law_rule_parts" :: "_law_rule" :: "_law_some" :: "_law_facts" :: "_law_unit" :: "_law_units" :: "_law_how" :: "_law_odd_things" :: "MOST" :: ([] : List PySem.Str)) w := by
  intro os
  kernel_rfl
theorem facts {P : Program} {w : World} {K : PySem.W.Frag} {h : Heap} {mg : Str → Option Value} {f : Addr} (X : K.In h) (G : h.Ns mainGlobals mg) (hfa : mg ("law" : Str) = some (.ref f)) (c : He.SaysD fa fn K) (cx : exB K = true) :
    ∃ fd : FuncData, (∀ (s : Shared) (v : Value), BindsTo s fd ⟨[v], []⟩ [("_law_script", v)]) ∧ ∀ base : Heap, K.In base → base.Ns mainGlobals mg → UG.FnG P w K mg base CX0 9 f fd ["_law_script"] (sp_law K) := by
  obtain ⟨d0, F0⟩ := c.def_ 0 (d := dd_own_copy) rfl
  obtain ⟨d1, F1⟩ := c.def_ 1 (d := dd_NoUnit_init) rfl
  obtain ⟨d2, F2⟩ := c.def_ 2 (d := dd_Shelf_init) rfl
  obtain ⟨d3, F3⟩ := c.def_ 3 (d := dd_Shelf_names) rfl
  obtain ⟨d4, F4⟩ := c.def_ 4 (d := dd_Shelf_has) rfl
  obtain ⟨d5, F5⟩ := c.def_ 5 (d := dd_Shelf_unit) rfl
  obtain ⟨d6, F6⟩ := c.def_ 6 (d := dd_Shelf_needing) rfl
  obtain ⟨d7, F7⟩ := c.def_ 7 (d := dd_Shelf_barred) rfl
  obtain ⟨d8, F8⟩ := c.def_ 8 (d := dd_Shelf_waited) rfl
  obtain ⟨d9, F9⟩ := c.def_ 9 (d := dd_Rule_init) rfl
  obtain ⟨d10, F10⟩ := c.def_ 10 (d := dd_Rule_eq) rfl
  obtain ⟨d11, F11⟩ := c.def_ 11 (d := dd_Unit_init) rfl
  obtain ⟨d12, F12⟩ := c.def_ 12 (d := dd_Unit_eq) rfl
  obtain ⟨d13, F13⟩ := c.def_ 13 (d := dd_law_bag) rfl
  obtain ⟨d14, F14⟩ := c.def_ 14 (d := dd_law_take) rfl
  obtain ⟨d15, F15⟩ := c.def_ 15 (d := dd_law_name) rfl
  obtain ⟨d16, F16⟩ := c.def_ 16 (d := dd_law_names) rfl
  obtain ⟨d17, F17⟩ := c.def_ 17 (d := dd_law_kind) rfl
  obtain ⟨d18, F18⟩ := c.def_ 18 (d := dd_law_any) rfl
  obtain ⟨d19, F19⟩ := c.def_ 19 (d := dd_law_rule_parts) rfl
  obtain ⟨d20, F20⟩ := c.def_ 20 (d := dd_law_rule) rfl
  obtain ⟨d21, F21⟩ := c.def_ 21 (d := dd_law_some) rfl
  obtain ⟨d22, F22⟩ := c.def_ 22 (d := dd_law_facts) rfl
  obtain ⟨d23, F23⟩ := c.def_ 23 (d := dd_law_unit) rfl
  obtain ⟨d24, F24⟩ := c.def_ 24 (d := dd_law_units) rfl
  obtain ⟨d25, F25⟩ := c.def_ 25 (d := dd_law_how) rfl
  obtain ⟨d26, F26⟩ := c.def_ 26 (d := dd_law_odd_things) rfl
  obtain ⟨d27, F27⟩ := c.def_ 27 (d := dd_law) rfl
  let T : Txt K mg := {
    d_own_copy := d0
    F_own_copy := F0
    b_own_copy := FunD.bindsN (ps := ["thing"]) F0 fun _ _ _ _ _ _ us hl => match us, hl with | [_], _ => rfl
    d_NoUnit_init := d1
    F_NoUnit_init := F1
    b_NoUnit_init := FunD.bindsN (ps := ["self", "name"]) F1 fun _ _ _ _ _ _ us hl => match us, hl with | [_, _], _ => rfl
    d_Shelf_init := d2
    F_Shelf_init := F2
    b2_Shelf_init := UP.binds_all (FunD.binds1 (ps := ["self", "units"]) F2 2 1 (List.cons_ne_nil _ _) rfl fun _ _ _ _ _ _ _ us its h1 h2 => match us, its, h1, h2 with | [_, _], [_], _, _ => ⟨_, rfl, rfl⟩)
    b1_Shelf_init := FunD.binds1 (ps := ["self", "units"]) F2 1 0 (List.cons_ne_nil _ _) rfl fun _ _ _ _ _ _ _ us its h1 h2 => match us, its, h1, h2 with | [_], [_], _, _ => ⟨_, rfl, rfl⟩
    d_Shelf_names := d3
    F_Shelf_names := F3
    b_Shelf_names := FunD.bindsN (ps := ["self"]) F3 fun _ _ _ _ _ _ us hl => match us, hl with | [_], _ => rfl
    d_Shelf_has := d4
    F_Shelf_has := F4
    b_Shelf_has := FunD.bindsN (ps := ["self", "name"]) F4 fun _ _ _ _ _ _ us hl => match us, hl with | [_, _], _ => rfl
    d_Shelf_unit := d5
    F_Shelf_unit := F5
    b_Shelf_unit := FunD.bindsN (ps := ["self", "name"]) F5 fun _ _ _ _ _ _ us hl => match us, hl with | [_, _], _ => rfl
    d_Shelf_needing := d6
    F_Shelf_needing := F6
    b_Shelf_needing := FunD.bindsN (ps := ["self", "name"]) F6 fun _ _ _ _ _ _ us hl => match us, hl with | [_, _], _ => rfl
    d_Shelf_barred := d7
    F_Shelf_barred := F7
    b_Shelf_barred := FunD.bindsN (ps := ["self", "name"]) F7 fun _ _ _ _ _ _ us hl => match us, hl with | [_, _], _ => rfl
    d_Shelf_waited := d8
    F_Shelf_waited := F8
    b_Shelf_waited := FunD.bindsN (ps := ["self", "name"]) F8 fun _ _ _ _ _ _ us hl => match us, hl with | [_, _], _ => rfl
    d_Rule_init := d9
    F_Rule_init := F9
    d_Rule_eq := d10
    F_Rule_eq := F10
    b_Rule_eq := FunD.bindsN (ps := ["self", "other"]) F10 fun _ _ _ _ _ _ us hl => match us, hl with | [_, _], _ => rfl
    d_Unit_init := d11
    F_Unit_init := F11
    d_Unit_eq := d12
    F_Unit_eq := F12
    b_Unit_eq := FunD.bindsN (ps := ["self", "other"]) F12 fun _ _ _ _ _ _ us hl => match us, hl with | [_, _], _ => rfl
    d_law_bag := d13
    F_law_bag := F13
    b_law_bag := FunD.bindsN (ps := ["_law_script", "_law_at"]) F13 fun _ _ _ _ _ _ us hl => match us, hl with | [_, _], _ => rfl
    d_law_take := d14
    F_law_take := F14
    b_law_take := FunD.bindsN (ps := ["_law_bag_here", "_law_size"]) F14 fun _ _ _ _ _ _ us hl => match us, hl with | [_, _], _ => rfl
    d_law_name := d15
    F_law_name := F15
    b_law_name := FunD.bindsN (ps := ["_law_bag_here"]) F15 fun _ _ _ _ _ _ us hl => match us, hl with | [_], _ => rfl
    d_law_names := d16
    F_law_names := F16
    b_law_names := FunD.bindsN (ps := ["_law_bag_here", "_law_size"]) F16 fun _ _ _ _ _ _ us hl => match us, hl with | [_, _], _ => rfl
    d_law_kind := d17
    F_law_kind := F17
    b_law_kind := FunD.bindsN (ps := ["_law_e"]) F17 fun _ _ _ _ _ _ us hl => match us, hl with | [_], _ => rfl
    d_law_any := d18
    F_law_any := F18
    b_law_any := FunD.bindsN (ps := ["_law_bag_here"]) F18 fun _ _ _ _ _ _ us hl => match us, hl with | [_], _ => rfl
    d_law_rule_parts := d19
    F_law_rule_parts := F19
    b_law_rule_parts := FunD.bindsN (ps := ["_law_bag_here"]) F19 fun _ _ _ _ _ _ us hl => match us, hl with | [_], _ => rfl
    d_law_rule := d20
    F_law_rule := F20
    b_law_rule := FunD.bindsN (ps := ["_law_five"]) F20 fun _ _ _ _ _ _ us hl => match us, hl with | [_], _ => rfl
    d_law_some := d21
    F_law_some := F21
    b_law_some := FunD.bindsN (ps := ["_law_bag_here", "_law_pool", "_law_most"]) F21 fun _ _ _ _ _ _ us hl => match us, hl with | [_, _, _], _ => rfl
    d_law_facts := d22
    F_law_facts := F22
    b_law_facts := FunD.bindsN (ps := ["_law_bag_here", "_law_most"]) F22 fun _ _ _ _ _ _ us hl => match us, hl with | [_, _], _ => rfl
    d_law_unit := d23
    F_law_unit := F23
    b_law_unit := FunD.bindsN (ps := ["_law_word", "_law_facts_here"]) F23 fun _ _ _ _ _ _ us hl => match us, hl with | [_, _], _ => rfl
    d_law_units := d24
    F_law_units := F24
    b_law_units := FunD.bindsN (ps := ["_law_facts_here"]) F24 fun _ _ _ _ _ _ us hl => match us, hl with | [_], _ => rfl
    d_law_how := d25
    F_law_how := F25
    b_law_how := FunD.bindsN (ps := ["_law_shelf", "_law_door", "_law_odd"]) F25 fun _ _ _ _ _ _ us hl => match us, hl with | [_, _, _], _ => rfl
    d_law_odd_things := d26
    F_law_odd_things := F26
    b_law_odd_things := FunD.bindsN (ps := ["_law_bag_here", "_law_words"]) F26 fun _ _ _ _ _ _ us hl => match us, hl with | [_, _], _ => rfl
    d_law := d27
    F_law := F27
    b_law := FunD.bindsN (ps := ["_law_script"]) F27 fun _ _ _ _ _ _ us hl => match us, hl with | [_], _ => rfl
    m_own_copy := He.glo_ok X G (c.fact 0 (f := .glo "own_copy") rfl)
    me_Shelf_names := He.meth_ok (c.fact 1 (f := .meth "Shelf" "names") rfl)
    me_Shelf_has := He.meth_ok (c.fact 2 (f := .meth "Shelf" "has") rfl)
    me_Shelf_unit := He.meth_ok (c.fact 3 (f := .meth "Shelf" "unit") rfl)
    me_Shelf_needing := He.meth_ok (c.fact 4 (f := .meth "Shelf" "needing") rfl)
    me_Shelf_barred := He.meth_ok (c.fact 5 (f := .meth "Shelf" "barred") rfl)
    me_Shelf_waited := He.meth_ok (c.fact 6 (f := .meth "Shelf" "waited") rfl)
    me_Rule_eq := He.meth_ok (c.fact 7 (f := .meth "Rule" "__eq__") rfl)
    me_Unit_eq := He.meth_ok (c.fact 8 (f := .meth "Unit" "__eq__") rfl)
    m_law_bag := He.glo_ok X G (c.fact 9 (f := .glo "_law_bag") rfl)
    m_law_take := He.glo_ok X G (c.fact 10 (f := .glo "_law_take") rfl)
    m_law_name := He.glo_ok X G (c.fact 11 (f := .glo "_law_name") rfl)
    m_law_names := He.glo_ok X G (c.fact 12 (f := .glo "_law_names") rfl)
    m_law_kind := He.glo_ok X G (c.fact 13 (f := .glo "_law_kind") rfl)
    m_law_any := He.glo_ok X G (c.fact 14 (f := .glo "_law_any") rfl)
    m_law_rule_parts := He.glo_ok X G (c.fact 15 (f := .glo "_law_rule_parts") rfl)
    m_law_rule := He.glo_ok X G (c.fact 16 (f := .glo "_law_rule") rfl)
    m_law_some := He.glo_ok X G (c.fact 17 (f := .glo "_law_some") rfl)
    m_law_facts := He.glo_ok X G (c.fact 18 (f := .glo "_law_facts") rfl)
    m_law_unit := He.glo_ok X G (c.fact 19 (f := .glo "_law_unit") rfl)
    m_law_units := He.glo_ok X G (c.fact 20 (f := .glo "_law_units") rfl)
    m_law_how := He.glo_ok X G (c.fact 21 (f := .glo "_law_how") rfl)
    m_law_odd_things := He.glo_ok X G (c.fact 22 (f := .glo "_law_odd_things") rfl)
    m_law := He.glo_ok X G (c.fact 23 (f := .glo "law") rfl)
    m_Shelf := He.glo_ok X G (c.fact 24 (f := .glo "Shelf") rfl)
    cl_Shelf := He.cls_ok (c.fact 25 (f := .cls "Shelf") rfl)
    mk_Shelf := He.mkr_ok (c.fact 26 (f := .mkr "Shelf") rfl)
    na_Shelf_by_name := He.noat_ok (c.fact 27 (f := .noat "Shelf" "by_name") rfl)
    m_Rule := He.glo_ok X G (c.fact 28 (f := .glo "Rule") rfl)
    cl_Rule := He.cls_ok (c.fact 29 (f := .cls "Rule") rfl)
    mk_Rule := He.mkr_ok (c.fact 30 (f := .mkr "Rule") rfl)
    na_Rule_first := He.noat_ok (c.fact 31 (f := .noat "Rule" "first") rfl)
    na_Rule_times := He.noat_ok (c.fact 32 (f := .noat "Rule" "times") rfl)
    na_Rule_top := He.noat_ok (c.fact 33 (f := .noat "Rule" "top") rfl)
    na_Rule_burst := He.noat_ok (c.fact 34 (f := .noat "Rule" "burst") rfl)
    na_Rule_span := He.noat_ok (c.fact 35 (f := .noat "Rule" "span") rfl)
    m_Unit := He.glo_ok X G (c.fact 36 (f := .glo "Unit") rfl)
    cl_Unit := He.cls_ok (c.fact 37 (f := .cls "Unit") rfl)
    mk_Unit := He.mkr_ok (c.fact 38 (f := .mkr "Unit") rfl)
    na_Unit_name := He.noat_ok (c.fact 39 (f := .noat "Unit" "name") rfl)
    na_Unit_kind := He.noat_ok (c.fact 40 (f := .noat "Unit" "kind") rfl)
    na_Unit_needs := He.noat_ok (c.fact 41 (f := .noat "Unit" "needs") rfl)
    na_Unit_wants := He.noat_ok (c.fact 42 (f := .noat "Unit" "wants") rfl)
    na_Unit_bars := He.noat_ok (c.fact 43 (f := .noat "Unit" "bars") rfl)
    na_Unit_after := He.noat_ok (c.fact 44 (f := .noat "Unit" "after") rfl)
    na_Unit_opens := He.noat_ok (c.fact 45 (f := .noat "Unit" "opens") rfl)
    na_Unit_rule := He.noat_ok (c.fact 46 (f := .noat "Unit" "rule") rfl)
    m_NoUnit := He.glo_ok X G (c.fact 47 (f := .glo "NoUnit") rfl)
    m_NoTick := He.glo_ok X G (c.fact 48 (f := .glo "NoTick") rfl)
    m_NotReady := He.glo_ok X G (c.fact 49 (f := .glo "NotReady") rfl)
    m_NotBegun := He.glo_ok X G (c.fact 50 (f := .glo "NotBegun") rfl)
    m_NotOn := He.glo_ok X G (c.fact 51 (f := .glo "NotOn") rfl)
    m_Running := He.glo_ok X G (c.fact 52 (f := .glo "Running") rfl)
    m_NoDoor := He.glo_ok X G (c.fact 53 (f := .glo "NoDoor") rfl)
    m_Full := He.glo_ok X G (c.fact 54 (f := .glo "Full") rfl)
    m_NoText := He.glo_ok X G (c.fact 55 (f := .glo "NoText") rfl)
    m_NoRow := He.glo_ok X G (c.fact 56 (f := .glo "NoRow") rfl)
    m_Lack := He.glo_ok X G (c.fact 57 (f := .glo "Lack") rfl)
    m_Clash := He.glo_ok X G (c.fact 58 (f := .glo "Clash") rfl)
    m_Knot := He.glo_ok X G (c.fact 59 (f := .glo "Knot") rfl)
    m_NoShelf := He.glo_ok X G (c.fact 60 (f := .glo "NoShelf") rfl)
    m_UnitError := He.glo_ok X G (c.fact 61 (f := .glo "UnitError") rfl)
    c_MOST := He.int_ok X G (c.fact 62 (f := .int "MOST" 16) rfl)
    n_isinstance := He.free_ok X G (c.fact 63 (f := .free "isinstance") rfl)
    n_list := He.free_ok X G (c.fact 64 (f := .free "list") rfl)
    n_tuple := He.free_ok X G (c.fact 65 (f := .free "tuple") rfl)
    n_KeyError := He.free_ok X G (c.fact 66 (f := .free "KeyError") rfl)
    n_len := He.free_ok X G (c.fact 67 (f := .free "len") rfl)
    n_sorted := He.free_ok X G (c.fact 68 (f := .free "sorted") rfl)
    n_str := He.free_ok X G (c.fact 69 (f := .free "str") rfl)
    n_abs := He.free_ok X G (c.fact 70 (f := .free "abs") rfl)
    n_int := He.free_ok X G (c.fact 71 (f := .free "int") rfl)
    n_range := He.free_ok X G (c.fact 72 (f := .free "range") rfl)
    n_ValueError := He.free_ok X G (c.fact 73 (f := .free "ValueError") rfl)
    n_repr := He.free_ok X G (c.fact 74 (f := .free "repr") rfl)
    n_max := He.free_ok X G (c.fact 75 (f := .free "max") rfl)
    n_min := He.free_ok X G (c.fact 76 (f := .free "min") rfl)
    n_all := He.free_ok X G (c.fact 77 (f := .free "all") rfl)
    ix_Unit := UO.insB_ok (He.ba (He.ba (He.ba (He.ba (He.ba (He.ba (He.ba (He.ba (He.ba (He.ba (He.ba (He.ba (He.ba (He.ba (He.ba (He.ba (He.ba (He.ba (He.ba (He.ba (He.ba (He.ba (He.ba (He.ba (He.ba (He.ba (He.ba (He.ba (He.ba cx).1).1).1).1).1).1).1).1).1).1).1).1).1).1).1).1).1).1).1).1).1).1).1).1).1).1).1).1).1
    ix_Rule := UO.insB_ok (He.ba (He.ba (He.ba (He.ba (He.ba (He.ba (He.ba (He.ba (He.ba (He.ba (He.ba (He.ba (He.ba (He.ba (He.ba (He.ba (He.ba (He.ba (He.ba (He.ba (He.ba (He.ba (He.ba (He.ba (He.ba (He.ba (He.ba (He.ba (He.ba cx).1).1).1).1).1).1).1).1).1).1).1).1).1).1).1).1).1).1).1).1).1).1).1).1).1).1).1).1).2
    e0_Unit_init_needs := fun H => UO.tup0B_ok (He.ba (He.ba (He.ba (He.ba (He.ba (He.ba (He.ba (He.ba (He.ba (He.ba (He.ba (He.ba (He.ba (He.ba (He.ba (He.ba (He.ba (He.ba (He.ba (He.ba (He.ba (He.ba (He.ba (He.ba (He.ba (He.ba (He.ba (He.ba cx).1).1).1).1).1).1).1).1).1).1).1).1).1).1).1).1).1).1).1).1).1).1).1).1).1).1).1).2 H
    e0_Unit_init_wants := fun H => UO.tup0B_ok (He.ba (He.ba (He.ba (He.ba (He.ba (He.ba (He.ba (He.ba (He.ba (He.ba (He.ba (He.ba (He.ba (He.ba (He.ba (He.ba (He.ba (He.ba (He.ba (He.ba (He.ba (He.ba (He.ba (He.ba (He.ba (He.ba (He.ba cx).1).1).1).1).1).1).1).1).1).1).1).1).1).1).1).1).1).1).1).1).1).1).1).1).1).1).2 H
    e0_Unit_init_bars := fun H => UO.tup0B_ok (He.ba (He.ba (He.ba (He.ba (He.ba (He.ba (He.ba (He.ba (He.ba (He.ba (He.ba (He.ba (He.ba (He.ba (He.ba (He.ba (He.ba (He.ba (He.ba (He.ba (He.ba (He.ba (He.ba (He.ba (He.ba (He.ba cx).1).1).1).1).1).1).1).1).1).1).1).1).1).1).1).1).1).1).1).1).1).1).1).1).1).2 H
    e0_Unit_init_after := fun H => UO.tup0B_ok (He.ba (He.ba (He.ba (He.ba (He.ba (He.ba (He.ba (He.ba (He.ba (He.ba (He.ba (He.ba (He.ba (He.ba (He.ba (He.ba (He.ba (He.ba (He.ba (He.ba (He.ba (He.ba (He.ba (He.ba (He.ba cx).1).1).1).1).1).1).1).1).1).1).1).1).1).1).1).1).1).1).1).1).1).1).1).1).2 H
    px_Unit_Rule := UO.pairB_ok (He.ba (He.ba (He.ba (He.ba (He.ba (He.ba (He.ba (He.ba (He.ba (He.ba (He.ba (He.ba (He.ba (He.ba (He.ba (He.ba (He.ba (He.ba (He.ba (He.ba (He.ba (He.ba (He.ba (He.ba cx).1).1).1).1).1).1).1).1).1).1).1).1).1).1).1).1).1).1).1).1).1).1).1).2
    px_Rule_Unit := UO.pairB_ok (He.ba (He.ba (He.ba (He.ba (He.ba (He.ba (He.ba (He.ba (He.ba (He.ba (He.ba (He.ba (He.ba (He.ba (He.ba (He.ba (He.ba (He.ba (He.ba (He.ba (He.ba (He.ba (He.ba cx).1).1).1).1).1).1).1).1).1).1).1).1).1).1).1).1).1).1).1).1).1).1).2
    e1_Shelf_init := fun H => UO.tup0B_ok (He.ba (He.ba (He.ba (He.ba (He.ba (He.ba (He.ba (He.ba (He.ba (He.ba (He.ba (He.ba (He.ba (He.ba (He.ba (He.ba (He.ba (He.ba (He.ba (He.ba (He.ba (He.ba cx).1).1).1).1).1).1).1).1).1).1).1).1).1).1).1).1).1).1).1).1).1).2 H
    ox_NoUnit := UX.ownB_ok UE.BaseM.key UE.store_key ((He.ba (He.ba (He.ba (He.ba (He.ba (He.ba (He.ba (He.ba (He.ba (He.ba (He.ba (He.ba (He.ba (He.ba (He.ba (He.ba (He.ba (He.ba (He.ba (He.ba (He.ba cx).1).1).1).1).1).1).1).1).1).1).1).1).1).1).1).1).1).1).1).1).2)
    ax_NoUnit := UX.asksB_ok ((He.ba (He.ba (He.ba (He.ba (He.ba (He.ba (He.ba (He.ba (He.ba (He.ba (He.ba (He.ba (He.ba (He.ba (He.ba (He.ba (He.ba (He.ba (He.ba (He.ba cx).1).1).1).1).1).1).1).1).1).1).1).1).1).1).1).1).1).1).1).2)
    oa_NoUnit_name := of_decide_eq_true ((He.ba (He.ba (He.ba (He.ba (He.ba (He.ba (He.ba (He.ba (He.ba (He.ba (He.ba (He.ba (He.ba (He.ba (He.ba (He.ba (He.ba (He.ba (He.ba cx).1).1).1).1).1).1).1).1).1).1).1).1).1).1).1).1).1).1).2)
    kx_NoUnit_NoUnit := of_decide_eq_true ((He.ba (He.ba (He.ba (He.ba (He.ba (He.ba (He.ba (He.ba (He.ba (He.ba (He.ba (He.ba (He.ba (He.ba (He.ba (He.ba (He.ba (He.ba cx).1).1).1).1).1).1).1).1).1).1).1).1).1).1).1).1).1).2)
    kx_NoUnit_NoTick := of_decide_eq_true ((He.ba (He.ba (He.ba (He.ba (He.ba (He.ba (He.ba (He.ba (He.ba (He.ba (He.ba (He.ba (He.ba (He.ba (He.ba (He.ba (He.ba cx).1).1).1).1).1).1).1).1).1).1).1).1).1).1).1).1).2)
    kx_NoUnit_NotReady := of_decide_eq_true ((He.ba (He.ba (He.ba (He.ba (He.ba (He.ba (He.ba (He.ba (He.ba (He.ba (He.ba (He.ba (He.ba (He.ba (He.ba (He.ba cx).1).1).1).1).1).1).1).1).1).1).1).1).1).1).1).2)
    kx_NoUnit_NotBegun := of_decide_eq_true ((He.ba (He.ba (He.ba (He.ba (He.ba (He.ba (He.ba (He.ba (He.ba (He.ba (He.ba (He.ba (He.ba (He.ba (He.ba cx).1).1).1).1).1).1).1).1).1).1).1).1).1).1).2)
    kx_NoUnit_NotOn := of_decide_eq_true ((He.ba (He.ba (He.ba (He.ba (He.ba (He.ba (He.ba (He.ba (He.ba (He.ba (He.ba (He.ba (He.ba (He.ba cx).1).1).1).1).1).1).1).1).1).1).1).1).1).2)
    kx_NoUnit_Running := of_decide_eq_true ((He.ba (He.ba (He.ba (He.ba (He.ba (He.ba (He.ba (He.ba (He.ba (He.ba (He.ba (He.ba (He.ba cx).1).1).1).1).1).1).1).1).1).1).1).1).2)
    kx_NoUnit_NoDoor := of_decide_eq_true ((He.ba (He.ba (He.ba (He.ba (He.ba (He.ba (He.ba (He.ba (He.ba (He.ba (He.ba (He.ba cx).1).1).1).1).1).1).1).1).1).1).1).2)
    kx_NoUnit_Full := of_decide_eq_true ((He.ba (He.ba (He.ba (He.ba (He.ba (He.ba (He.ba (He.ba (He.ba (He.ba (He.ba cx).1).1).1).1).1).1).1).1).1).1).2)
    kx_NoUnit_NoText := of_decide_eq_true ((He.ba (He.ba (He.ba (He.ba (He.ba (He.ba (He.ba (He.ba (He.ba (He.ba cx).1).1).1).1).1).1).1).1).1).2)
    kx_NoUnit_NoRow := of_decide_eq_true ((He.ba (He.ba (He.ba (He.ba (He.ba (He.ba (He.ba (He.ba (He.ba cx).1).1).1).1).1).1).1).1).2)
    kx_NoUnit_Lack := of_decide_eq_true ((He.ba (He.ba (He.ba (He.ba (He.ba (He.ba (He.ba (He.ba cx).1).1).1).1).1).1).1).2)
    kx_NoUnit_Clash := of_decide_eq_true ((He.ba (He.ba (He.ba (He.ba (He.ba (He.ba (He.ba cx).1).1).1).1).1).1).2)
    kx_NoUnit_Knot := of_decide_eq_true ((He.ba (He.ba (He.ba (He.ba (He.ba (He.ba cx).1).1).1).1).1).2)
    kx_NoUnit_NoShelf := of_decide_eq_true ((He.ba (He.ba (He.ba (He.ba (He.ba cx).1).1).1).1).2)
    kx_NoUnit_UnitError := of_decide_eq_true ((He.ba (He.ba (He.ba (He.ba cx).1).1).1).2)
    kx_NoUnit_ValueError := of_decide_eq_true ((He.ba (He.ba (He.ba cx).1).1).2)
    kx_NoUnit_KeyError := of_decide_eq_true ((He.ba (He.ba cx).1).2)
    vi_KeyError := UX.viB_ok ((He.ba cx).2)
    kb_Rule_init_1_first_times_top_burst_span := kb_Rule_init_1_first_times_top_burst_span_mk F9
    kb_Unit_init_2_kind_needs_wants_bars_after_opens_rule := kb_Unit_init_2_kind_needs_wants_bars_after_opens_rule_mk F11
    kb_Shelf_has_1_name := kb_Shelf_has_1_name_mk F4 }
  have e := hfa.symm.trans T.m_law
  cases e
  have b := FunD.bindsA (ps := ["_law_script"]) T.F_law fun _ _ _ _ _ _ us hl => match us, hl with | [_], _ => rfl
  exact ⟨T.d_law, fun s v => b s [v] rfl, fun base _ _ => ok_law T⟩
end K23
open PySem PySem.W PySem.Calls PyProof.Rows
set_option maxRecDepth 100000 in
set_option maxHeartbeats 0 in
theorem PySem.Challenge.cw_unitwants_k23_names_of_none_holds : PySem.Challenge.rw_unitwants_k23_names_of_none.Holds := by
  w_on; o_law
  refine HandSHeadRun.head_any (r := OpenLaw.row PySem.Challenge.rw_unitwants_k23_names_of_none) (q := view (OpenLaw.row PySem.Challenge.rw_unitwants_k23_names_of_none).prog [40]) (H := K23.hk) (ob := K23.ob) (M := 8000) (loose := ("_wall" :: "own_copy" :: "UnitError" :: "NoTick" :: "NotReady" :: "NotBegun" :: "NotOn" :: "Running" :: "NoDoor" :: "Full" :: "NoText" :: "NoRow" :: "Lack" :: "Clash" :: "Knot" :: "NoUnit" :: "NoShelf" :: "Shelf" :: "Rule" :: "Unit" :: "_law_bag" :: "_law_take" :: "_law_name" :: "_law_names" :: "_law_kind" :: "_law_any" :: "_law_rule_parts" :: "_law_rule" :: "_law_some" :: "_law_facts" :: "_law_unit" :: "_law_units" :: "_law_how" :: "_law_odd_things" :: "MOST" :: ([] : List PySem.Str))) (d := HandSHeadRun.topDef (OpenLaw.row PySem.Challenge.rw_unitwants_k23_names_of_none).prog 40) (kwd := []) K23.ob_eq
    (by kernel_rfl) (fun s => by kernel_rfl) K23.run (by kernel_rfl) (by kernel_rfl) (by kernel_rfl) (by rfl) (by first | assumption | decide +kernel) (by decide +kernel) ⟨rfl, rfl, rfl, rfl, rfl, by decide +kernel⟩ ?hw ?hc
  case hw => w_witness2
  case hc =>
    refine UG.endG (l := PySem.Challenge.rw_unitwants_k23_names_of_none) (n := 63) (k := 9) (y := "_law_script") (CX := L2.CX0) rfl (by decide) (by kernel_rfl) ⟨rfl, by decide, by decide⟩ ?F (fun _ _ _ _ z => z)
    intro w mg fa h Y G hmg0
    obtain ⟨K, KX, c, cx⟩ := Y
    have hmg : mg ("law" : PySem.Str) = some (.ref fa) := by
      have e : (HandSHeadRun.topDef (OpenLaw.row PySem.Challenge.rw_unitwants_k23_names_of_none).prog 40).name = ("law" : PySem.Str) := by kernel_rfl
      rw [← e]
      exact hmg0
    obtain ⟨fd, hb, hF⟩ := K23.facts (P := (PySem.Challenge.rw_unitwants_k23_names_of_none).prog) (w := w) KX G hmg c cx
    exact ⟨K, fd, K23.sp_law K, KX, hb, fun H a ns hl hS => ⟨a, ns, rfl, hS, hl, fun _ => rfl⟩, hF⟩
