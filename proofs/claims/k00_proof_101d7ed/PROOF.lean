import PyProof.Rows.All
import Wide.All
import OpenK.AllK
import Wide.FinOn
import HandS.Base
import HandS.Call
import HandS.List
import HandS.Comp
import HandS.Ends
import HandS.Dict
import HandS.Iter
import HandS.Text
import HandS.Words
import HandS.WordsList
import HandS.WordsDict
import HandS.Wide
import HandS.Conv
import HandS.EndBits
import HandS.ExcInit
import KE.KIsAll
import KE.KTryMore
import HandS.Exc
import HandS.ExcIs
import HandS.IsInst
import HandS.Sort
import HandS.ExcBuiltin
import PySem.Challenge.RW_factpairs_k00_errors_keep_their_value
set_option Elab.async false
set_option linter.all false
set_option maxRecDepth 100000
set_option maxHeartbeats 4000000
/-! LpNum: powers of great ints, bounds for the draws of a law. -/
namespace Lp
open PySem PySem.Spec PyProof.Rows L2
/-- a power of great size -/
def CPowW (i j : Int) : Prop := 0 ≤ j ∧ (Builtin.Int.intBits i : Int) * j ≤ 2 ^ 27
section
variable {X : Cx}
theorem op_powW : OpR X (binaryOp .Pow) (rI CPowW fun i j => .int (i ^ j.toNat)) := opI fun _ _ _ _ _ _ _ hc q => pow_int hc.1 hc.2 q
end
theorem bits_of {i : Int} {b : Nat} (h : Builtin.Int.intBits i ≤ b) : i.natAbs < 2 ^ b := by
  unfold Builtin.Int.intBits at h
  by_cases e : i.natAbs = 0
  · rw [e]; exact Nat.two_pow_pos _
  · split at h
    · rename_i z
      have z' : i = 0 := by first | exact z | simpa using z
      exact absurd (by rw [z']; rfl) e
    · have h1 : i.natAbs.log2 < b := h
      exact (Nat.log2_lt e).mp h1
/-- the draws' own part -/
def ownLine : Int := (10 ^ 60) ^ 5
theorem ownLine_pos : 0 < ownLine := by unfold ownLine; exact Int.pow_pos (Int.pow_pos (by decide))
theorem ownLine_bits : ownLine.natAbs < 2 ^ 1000 := by decide +kernel
theorem ownLine_lt : ownLine < 2 ^ 1000 := by decide +kernel
theorem own_0 (n : Int) (b : Bool) : 0 ≤ n % ownLine * (if b = true then 1 else 0) := by
  have h := (Int.emod_nonneg n (Int.ne_of_gt ownLine_pos))
  cases b
  · simp
  · simpa using h
theorem own_1 (n : Int) (b : Bool) : n % ownLine * (if b = true then 1 else 0) < ownLine := by
  have h := (Int.emod_lt_of_pos n ownLine_pos)
  cases b
  · have := ownLine_pos; simpa using this
  · simpa using h
theorem bit_abs (b : Bool) : (if b = true then (1 : Int) else 0).natAbs < 2 ^ 2 := by cases b <;> decide
theorem take_mod {n : Int} (a : Int) (h : 0 < n) : 0 ≤ a % n ∧ a % n < n := ⟨Int.emod_nonneg _ (by omega), Int.emod_lt_of_pos _ h⟩
theorem five {z a b c d e : Int} (ha : 0 < a ∧ a < 2 ^ 31) (hb : 0 < b ∧ b < 2 ^ 31) (hc : 0 < c ∧ c < 2 ^ 31) (hd : 0 < d ∧ d < 2 ^ 31) (he : 0 < e ∧ e < 2 ^ 31) : ∃ p, atI [V.int a, V.int b, V.int c, V.int d, V.int e] (z % 5) = some (V.int p) ∧ 0 < p ∧ p < 2 ^ 31 := by
  have h : z % 5 = 0 ∨ z % 5 = 1 ∨ z % 5 = 2 ∨ z % 5 = 3 ∨ z % 5 = 4 := by omega
  rcases h with h | h | h | h | h <;> rw [h]
  · exact ⟨a, rfl, ha⟩
  · exact ⟨b, rfl, hb⟩
  · exact ⟨c, rfl, hc⟩
  · exact ⟨d, rfl, hd⟩
  · exact ⟨e, rfl, he⟩
theorem mix_abs {mix k d : Int} {c : Nat} (h0 : 0 ≤ mix) (h1 : mix < 2305843009213693951) (hc : c < 100000) (k0 : 0 ≤ k) (k1 : k ≤ 1000000) (d0 : 0 ≤ d) (d1 : d ≤ 1000000) : (mix + k * ((c : Int) + 1) * ((c : Int) + 1) + d).natAbs < 2 ^ 64 := by
  have c1 : (c : Int) + 1 ≤ 100000 := by omega
  have a1 : 0 ≤ k * ((c : Int) + 1) := Int.mul_nonneg k0 (by omega)
  have a2 : k * ((c : Int) + 1) ≤ 1000000 * 100000 := Int.mul_le_mul k1 c1 (by omega) (by decide)
  have a3 : 0 ≤ k * ((c : Int) + 1) * ((c : Int) + 1) := Int.mul_nonneg a1 (by omega)
  have a4 : k * ((c : Int) + 1) * ((c : Int) + 1) ≤ 1000000 * 100000 * 100000 := Int.mul_le_mul a2 c1 (by omega) (by decide)
  omega
theorem nat_of {z : Int} (R : Int → Prop) (h : 0 ≤ z) (q : R ((z.toNat : Nat) : Int)) : R z := by
  have e : ((z.toNat : Nat) : Int) = z := by omega
  rw [e] at q
  exact q
theorem nat_lt {z : Int} {n : Nat} (h : 0 ≤ z) (l : z < (n : Int)) : z.toNat < n := by omega
/-- what a pot holds -/
structure PotIs (own mix : Int) : Prop where
  o0 : 0 ≤ own
  o1 : own < ownLine
  m0 : 0 ≤ mix
  m1 : mix < 2305843009213693951
def PotV (own mix : Int) (c : Nat) : HO := .lst [.int own, .int mix, .int (c : Int)]
/-- all but the object at p stays -/
def But (p : Addr) (H H' : Hp) : Prop := ∀ b o, b ≠ p → H b = some o → H' b = some o
theorem But.refl {p : Addr} {H : Hp} : But p H H := fun _ _ _ h => h
theorem But.trans {p : Addr} {H H1 H2 : Hp} (a : But p H H1) (b : But p H1 H2) : But p H H2 := fun c o n h => b c o n (a c o n h)
theorem But.of {p : Addr} {H H' : Hp} (s : ∀ b o, H b = some o → H' b = some o) : But p H H' := fun b o _ h => s b o h
theorem But.new {p q : Addr} {H H' : Hp} {o : HO} (s : But p H H') (n : H' q = none) : But p H (upd H' q o) := fun b u nb h => by
  rw [upd_ne (ne_of_none (s b u nb h) n)]
  exact s b u nb h
theorem But.put {p : Addr} {H H' : Hp} {o : HO} (s : But p H H') : But p H (upd H' p o) := fun b u nb h => by
  rw [upd_ne nb]
  exact s b u nb h
/-- script a list of ints; a place; what comes is a pot -/
def spPot (K : PySem.W.Frag) : Sp := fun vs H Q _ => ∃ (a : Addr) (ns : List Int) (place : Nat), vs = [.ref a, .int (place : Int)] ∧ SqL K H a (ns.map V.int) ∧ (∀ z ∈ ns, Builtin.Int.intBits z ≤ 1048576) ∧ place ≤ 1000 ∧
  ∀ (p : Addr) (own mix : Int), H p = none → PotIs own mix → Q (.ref p) (upd H p (PotV own mix 0))
/-- a pot at p; how many; what comes is less -/
def spTake : Sp := fun vs H Q _ => ∃ (p : Addr) (own mix : Int) (c n : Nat), vs = [.ref p, .int (n : Int)] ∧ H p = some (PotV own mix c) ∧ PotIs own mix ∧ c < 100000 ∧ 0 < n ∧ n ≤ 1000000 ∧
  ∀ (H' : Hp) (k : Nat) (own' : Int) (c' : Nat), k < n → But p H H' → H' p = some (PotV own' mix c') → PotIs own' mix → c ≤ c' → c' ≤ c + 1 → Q (.int (k : Int)) H'
def rLn (K : PySem.W.Frag) : List V → Hp → VK → Prop := fun xs H Q => ∃ x n, xs = [x] ∧ LenV K x H n ∧ Q (.int n) H
def potN : List Str := ["_law_script", "_law_place", "_law_cell", "_law_own", "_law_small"]
def takeN : List Str := ["_law_pot_here", "_law_upto", "_law_digit", "_law_prime", "_law_mixed"]
theorem abs_if (i : Int) : (if i < 0 then -i else i) = (i.natAbs : Int) := by split <;> omega
theorem small_mod {a b : Int} (h : 0 < b) : 0 ≤ a % b ∧ a % b < b := ⟨Int.emod_nonneg _ (by omega), Int.emod_lt_of_pos _ h⟩
theorem lt_pow {a : Int} {b : Nat} (h0 : 0 ≤ a) (h : a < 2 ^ b) : a.natAbs < 2 ^ b := by
  have e : ((a.natAbs : Nat) : Int) < ((2 ^ b : Nat) : Int) := by
    rw [Int.natCast_pow]
    have : ((a.natAbs : Nat) : Int) = a := by omega
    rw [this]; exact h
  exact Int.ofNat_lt.mp e
end Lp

set_option maxHeartbeats 4000000
/-! LpG: defs that show values (repr): their promise is held where nothing is being shown. -/
namespace Lp
open PySem PySem.Spec PyProof.Rows L2
/-- as FnOk, where no repr stands around -/
structure FnG (P : Program) (w : World) (K : PySem.W.Frag) (mg : Str → Option Value) (base : Heap) (CX : CXT) (k : Nat) (f : Addr) (fd : FuncData) (ps : List Str) (sp : Sp) : Prop where
  len : ∀ vs H Q E, sp vs H Q E → vs.length = ps.length
  go : ∀ (A : Around) (outer : List Env) (s : Shared) (H : Hp) (args : Args) (us : List Value) (vs : List V) (Q : VK) (E : XK), A.guards = some [] → Room k A → Env0 P w K mg base A outer s H → BindsTo s fd args (ps.zip us) →
    Vals vs us → sp vs H Q E → codeAny (model P w) A (.call (.ref f) args) (CR CX outer P w H s Q E) s
section
variable {P : Program} {w : World} {K : PySem.W.Frag} {mg : Str → Option Value} {base : Heap} {CX : CXT} {k : Nat} {f : Addr} {fd : FuncData} {ps : List Str} {sp : Sp}
theorem FnG.of (F : FnOk P w K mg base CX k f fd ps sp) : FnG P w K mg base CX k f fd ps sp := ⟨F.len, fun A o s H a us vs Q E _ => F.run A o s H a us vs Q E⟩
/-- a def's promise from its body, shown where nothing is being shown -/
theorem fnG_of {x qual : Str} {pa : Arguments} {bd : List Stmt} {sc : Scope} {dV kV dc pm cdv ct oc : Value} {an od : Option Addr} {sl : Array (Option Value)} {N : List Str}
    (at_ : K.lookup f = some ⟨oc, od, .func (PySem.W.fnOf x qual pa bd sc dV kV dc pm an cdv ct), sl⟩) (cd : PySem.W.codeIn K cdv qual = true) (S : FnScope N ps sc) (len : ∀ vs H Q E, sp vs H Q E → vs.length = ps.length)
    (body : ∀ (A : Around) (outer : List Env) (s : Shared) (H : Hp) (vs : List V) (Q : VK) (E : XK), A.guards = some [] → Room k (A.deeper (envOfC qual sc s.heap.objs.size f cdv)) → sp vs H Q E →
      ∃ t, PSs (cxOf CX P w K mg base N qual sc f cdv A outer s H E) bd t ∧ t { nx := fun _ H' => Q .non H', rt := Q } (start N vs) H) :
    FnG P w K mg base CX (k + 1) f (PySem.W.fnOf x qual pa bd sc dV kV dc pm an cdv ct) ps sp where
  len := len
  go := by
    intro A outer s H args us vs Q E hG room e0 binds rel hs
    have eqLen := len _ _ _ _ hs
    have up := fun (b : Addr) (o : Obj) (e : base.get? b = some o) => (e0.bs b o e).1
    have inK := e0.mod.kin.keeps up
    have noLim := e0.mod.nolimit.keeps up
    have kinds : ∀ y ∈ ps.zip us, sc.names.lookup y.1 = some .local ∨
        (sc.names.lookup y.1 = some .cell ∧ ((cellsFrom (s.heap.objs.size + 1) sc.names []).lookup y.1).isSome = true) := by
      rintro ⟨n, v⟩ hy
      cases S.par n (List.of_mem_zip hy).1 with
      | inl q => exact Or.inl q
      | inr q => exact Or.inr ⟨q, PySem.W.cellsFrom_some _ _ _ (Or.inl q)⟩
    apply codeAny_call_function room.depth (inK _ _ at_) rfl S.co S.gen rfl (PySem.W.codeRec_of inK cd)
    apply binds
    apply wpAny_newFunctionEnv_cells S.kind kinds
    intro env he s1 x1
    cases he
    refine ⟨noLim.keeps x1.toInCall.keep, ?_⟩
    apply codeAny_func
    obtain ⟨t, pt, ht⟩ := body A outer s H vs Q E hG (room.deeper _) hs
    have I0 := inv_start (CX := CX) (E := E) S room.hd e0 eqLen rel x1
    apply wpAny_mono (pt.run [] s1 (start N vs) H _ I0 ht)
    · intro fin s' h'
      match fin, h' with
      | .ret u, ⟨v, _, H', J, rv, q⟩ => exact ⟨v, H', J.os, J.bare, J.base, J.hok, rv, q⟩
      | .next, ⟨_, H', J, q⟩ => exact ⟨.non, H', J.os, J.bare, J.base, J.hok, rfl, q⟩
      | .brk, ⟨_, _, _, q⟩ => exact q.elim
      | .cont, ⟨_, _, _, q⟩ => exact q.elim
    · intro e s' h'
      exact h'
end
section
variable {X : Cx} {CX : CXT} {k : Nat} {f : Addr} {fd : FuncData} {ps : List Str} {sp : Sp} {dvs : List V} {ds : List Value} {E : XK} {x : Str} {p pos : Pos} {e : Expr} {es : List Expr} {t : TA}
/-- such a def called by its name -/
theorem pe_callG (F : FnG X.prog X.w X.K X.mg X.base CX k f fd ps sp) (hG : X.A.guards = some []) (hr : Room k X.A) (hg : Gl X x) (hm : X.mg x = some (.ref f)) (hk : PySem.W.keepIn X.K (.ref f) = true) (hb : Binds X.K fd ps ds) (hd : Vals dvs ds) (hx : Passes CX X E)
    (ha : PA X (e :: es) t) (hdb : (x == ("__debug__" : Str)) = false := by decide) (he : starEach (e :: es) X.env = (false, eval e X.env) :: starEach es X.env := by rfl) (hpl : (backTo pos (starEach es X.env)).any (·.1) = false := by rfl) :
    PE X (.Call (.Name x p) (e :: es) [] pos) (tCall sp dvs E t) := by
  constructor
  intro pins s σ H Q I h
  refine wpAny_Call_Name_kw (ld_glob I hg hm ?_ hdb)
  refine PySem.W.callWith_K (h₀ := X.base) I.ok.mod.kin hk (thn (ha.run pos pins s σ H _ I h) ?_) he hpl
  rintro us s1 ⟨vs, H1, I1, r, q⟩
  have rr := r.append hd
  have ll := (rr.length).symm.trans (F.len _ _ _ _ q)
  refine ⟨I1.kIn, wpAny_call (codeAny_mono (F.go X.A X.stack s1 H1 ⟨us, []⟩ _ _ Q E hG hr I1.env0 (hb s1 us I1.kIn ll) rr q) ?_)⟩
  intro res s' hq
  match res, hq with
  | .error er, hq => exact hx pins σ H1 s1 er s' I1 hq
  | .ok (.ret u), hq => exact I1.after hq
end
end Lp
namespace Lp
open PySem PySem.Spec PyProof.Rows L2
section
variable {P : Program} {w : World} {K : PySem.W.Frag} {mg mb : Str → Option Value} {CX : CXT} {k : Nat} {fa a : Addr} {fd : FuncData} {x : Str} {sp : Sp} {s : Shared} {vs : List Value} {ns : List Int} {H : Hp}
/-- how the law's call ends -/
def LawEnd (s : Shared) (r : Result) (s' : Shared) : Prop := r = .ok (.ret (.bool true)) ∧ OldK s.heap s'.heap ∧ s'.os = s.os ∧ AllBare s'.gens
/-- the law's call where only the script, at a, is tracked (or nothing) -/
theorem lawG_at (inK : K.In s.heap) (nsG : s.heap.Ns mainGlobals mg) (nsB : s.heap.Ns builtinsNs mb) (bts : ∀ x : Str, x ≠ "__name__" → mb x = bootBuiltins x) (noLim : s.heap.NoLimit) (noGen : s.gens = #[])
    (isA : s.heap.get? a = some { cls := .type "list", data := .seq vs.toArray }) (room : Room k callerA)
    (F : ∀ base : Heap, K.In base → base.Ns mainGlobals mg → FnG P w K mg base CX k fa fd [x] sp) (bind : ∀ (s : Shared) (u : Value), BindsTo s fd ⟨[u], []⟩ [(x, u)])
    (told : sp [.ref a] H (fun v _ => v = .bl true) fun _ _ _ => False) (noErr : ∀ e s', CX [] H s (fun _ _ _ => False) e s' → False)
    (only : Only H) (hok : HOk P w H s.heap) (just : ∀ b, H b ≠ none → b = a) (off : H a ≠ none → K.lookup a = none) :
    codeAny (model P w) callerA (.call (.ref fa) ⟨[.ref a], []⟩) (LawEnd s) s := by
  have free : ∀ b, b ≠ a → H b = none := fun b n => Decidable.byContradiction fun q => n (just b q)
  have dictFree : ∀ {b : Addr} {o : Obj} {es : Array DictEntry} {ep : Nat}, s.heap.get? b = some o → o.data = .dict es ep → H b = none := by
    intro b o es ep e d
    apply free
    intro z
    rw [z, isA] at e
    cases e
    cases d
  have keepNs : ∀ {b : Addr} {m : Str → Option Value}, s.heap.Ns b m → (hidT s.heap H).Ns b m := by
    rintro b m ⟨o, es, ep, e, d, r⟩
    exact ⟨o, es, ep, hidT_get e (dictFree e d), d, r⟩
  have keepK : K.In (hidT s.heap H) := by
    intro b o e
    refine hidT_get (inK b o e) (Decidable.byContradiction fun q => ?_)
    have z := just b q
    rw [z] at e q
    rw [off q] at e
    cases e
  have md : Mod K mg (hidT s.heap H) := by
    obtain ⟨mc, l1, l2⟩ := noLim
    exact ⟨keepK, keepNs nsG, ⟨mb, keepNs nsB, bts⟩, ⟨mc, keepNs l1, l2⟩⟩
  have e0 : Env0 P w K mg (hidT s.heap H) callerA [] s H := by
    refine ⟨rfl, md, fun b o e => of_hidT e, Nat.le_of_eq (hidT_size _ _), trivial, ?_, hok, .of_eq noGen⟩
    intro b hb
    cases hb
  have run := (F _ keepK (keepNs nsG)).go callerA [] s H ⟨[.ref a], []⟩ [.ref a] [.ref a] _ _ rfl room e0 (bind s (.ref a)) (.cons rfl .nil) told
  refine codeAny_mono run ?_
  intro r s' h
  match r, h with
  | .error e, h => exact (noErr e s' h).elim
  | .ok (.ret u), ⟨v, H', os, bare, un, hok', rv, q⟩ =>
    have q1 : v = .bl true := q
    rw [q1] at rv
    have q2 : u = Value.bool true := rv
    rw [q2]
    refine ⟨rfl, OldK.of_keep ?_, os, bare⟩
    intro b o e
    match hb : H b with
    | none =>
      refine un.keep b o e hb ?_ ?_
      · intro z; cases z
      · intro z; cases z
    | some u =>
      rcases only b with z | ⟨ob, xs, z⟩
      · rw [hb] at z; cases z
      · have e1 := (hok b _ z).1
        have e2 := (hok' b _ (un.frzs b ob _ z)).1
        rw [e] at e1
        cases e1
        exact e2
/-- the law's call, its promise held where nothing is being shown -/
theorem lawG_call (inK : K.In s.heap) (nsG : s.heap.Ns mainGlobals mg) (nsB : s.heap.Ns builtinsNs mb) (bts : ∀ x : Str, x ≠ "__name__" → mb x = bootBuiltins x) (noLim : s.heap.NoLimit) (noGen : s.gens = #[])
    (isA : s.heap.get? a = some { cls := .type "list", data := .seq vs.toArray }) (hints : IntsAre vs ns) (small : ns.length ≤ sizeLine) (room : Room k callerA)
    (F : ∀ base : Heap, K.In base → base.Ns mainGlobals mg → FnG P w K mg base CX k fa fd [x] sp) (bind : ∀ (s : Shared) (u : Value), BindsTo s fd ⟨[u], []⟩ [(x, u)])
    (told : ∀ H : Hp, Only H → SqL K H a (ns.map V.int) → sp [.ref a] H (fun v _ => v = .bl true) fun _ _ _ => False) (noErr : ∀ H e s', CX [] H s (fun _ _ _ => False) e s' → False) :
    codeAny (model P w) callerA (.call (.ref fa) ⟨[.ref a], []⟩) (LawEnd s) s := by
  have rv : Vals (ns.map V.int) vs := vals_ints hints
  match hk : K.lookup a with
  | some o =>
    have e := inK a o hk
    rw [isA] at e
    cases e
    have nothing : ∀ b u, (fun _ => none : Hp) b = some u → False := by
      intro b u z
      cases z
    refine lawG_at (H := fun _ => none) inK nsG nsB bts noLim noGen isA room F bind (told _ ?_ ?_) (noErr _) ?_ (fun b u z => (nothing b u z).elim) ?_ ?_
    · intro b
      exact Or.inl rfl
    · refine Or.inr ⟨_, vs.toArray, _, hk, rfl, rfl, rfl, ?_, by simpa using rv⟩
      rw [List.size_toArray, hints.length]
      exact small
    · intro b
      exact Or.inl rfl
    · intro b z
      exact absurd rfl z
    · intro z
      exact absurd rfl z
  | none =>
    let u : HO := .frz { cls := .type "list", data := .seq vs.toArray } (.lst (ns.map V.int))
    have at_a : (upd (fun _ => none) a u : Hp) a = some u := upd_same
    have off_a : ∀ b, b ≠ a → (upd (fun _ => none) a u : Hp) b = none := fun b n => upd_ne n
    have on : Only (upd (fun _ => none) a u) := by
      intro b
      by_cases hb : b = a
      · rw [hb]; exact Or.inr ⟨_, _, at_a⟩
      · exact Or.inl (off_a b hb)
    refine lawG_at (H := upd (fun _ => none) a u) inK nsG nsB bts noLim noGen isA room F bind (told _ on (Or.inl (Or.inr ⟨_, at_a⟩))) (noErr _) on ?_ ?_ (fun _ => hk)
    · intro b o z
      by_cases hb : b = a
      · rw [hb] at z ⊢
        rw [at_a] at z
        cases z
        exact ⟨isA, by rw [List.length_map]; exact small, vs, _, rv, isA⟩
      · rw [off_a b hb] at z
        cases z
    · intro b z
      exact Decidable.byContradiction fun n => z (off_a b n)
end
/-- the walk of a law row whose defs show values; the script's bits are told -/
theorem walkG {l : PySem.W.OpenLaw} {n k : Nat} {q : Program} {loose : List Str} {XP : (Str → Option Value) → Heap → Prop} {YP : World → Heap → Prop} {d : DefRec} {K : Params → PySem.W.Frag} {CX : World → CXT} {sp : World → Sp} {x : Str}
    (hn : l.most = some n) (hn2 : n ≤ sizeLine) (hdf : d.params.defaults = []) (hr : Room k callerA) (hY : ∀ (w : World) (h : Heap), YP w h → (K w.params).In h)
    (F : ∀ (w : World) (mg : Str → Option Value) (fa : Addr) (h : Heap), (K w.params).In h → h.Ns mainGlobals mg → mg d.name = some (.ref fa) →
      ∃ fd : FuncData, (∀ (s : Shared) (u : Value), BindsTo s fd ⟨[u], []⟩ [(x, u)]) ∧ ∀ base : Heap, (K w.params).In base → base.Ns mainGlobals mg → FnG l.prog w (K w.params) mg base (CX w) k fa fd [x] (sp w))
    (hsp : ∀ (w : World) (H : Hp) (a : Addr) (ns : List Int), ns.length ≤ n → (∀ z ∈ ns, Builtin.Int.intBits z ≤ 1048576) → Only H → SqL (K w.params) H a (ns.map V.int) → sp w [.ref a] H (fun v _ => v = .bl true) fun _ _ _ => False)
    (hCX : ∀ (w : World) (H : Hp) (s : Shared) (e : Value) (s' : Shared), CX w [] H s (fun _ _ _ => False) e s' → False) :
    PySem.W.WalkO q loose XP YP l.row.toRowW d [] (fun f vs => PySem.call f vs) := by
  apply Att.attach_callB hn hdf
  intro w s₀ s₁ mg mb fa o pm cd doc a vs ns G Y ho hd hcd hmg hobj hints hlen hbits hg
  have inK := hY w _ Y
  obtain ⟨fd, bind, F1⟩ := F w mg fa _ inK G.T.g hmg
  exact lawG_call inK G.T.g G.T.b G.T.builtins G.T.nolimit hg hobj hints (Nat.le_trans hlen hn2) hr F1 bind (fun H hO hS => hsp w H a ns hlen hbits hO hS) (fun H e s' => hCX w H s₁ e s')
end Lp
namespace Lp
open PySem PySem.Spec PyProof.Rows L2
/-- as Fun.ok, where nothing is being shown -/
theorem okG {P : Program} {w : World} {K : PySem.W.Frag} {mg : Str → Option Value} {base : Heap} {x qual : Str} {st : Stmt} {f : Addr} {fd : FuncData} {N ps : List Str} {k : Nat} {sp : Sp} (F : Fun K x qual st f fd) (S : FnScope N ps (defScope st))
    (len : ∀ vs H Q E, sp vs H Q E → vs.length = ps.length)
    (body : ∀ (cdv : Value) (A : Around) (outer : List Env) (s : Shared) (H : Hp) (vs : List V) (Q : VK) (E : XK), A.guards = some [] → Room k (A.deeper (envOfC qual (defScope st) s.heap.objs.size f cdv)) → sp vs H Q E →
      ∃ t, PSs (cxOf CX0 P w K mg base N qual (defScope st) f cdv A outer s H E).nox (defBody st) t ∧ t { nx := fun _ H' => Q .non H', rt := Q } (start N vs) H) : FnG P w K mg base CX0 (k + 1) f fd ps sp := by
  obtain ⟨oc, od, kV, doc, pm, an, cdv, ct, osl, e, lk, hcd⟩ := F.ex
  subst e
  refine fnG_of lk hcd S len fun A outer s H vs Q E hG hr hs => ?_
  obtain ⟨t, h, q⟩ := body cdv A outer s H vs Q E hG hr hs
  exact ⟨t, h.nox, q⟩
end Lp

set_option maxHeartbeats 4000000
/-! LpRepr: repr of data of any depth, dicts too. -/
namespace Lp
open PySem PySem.Spec PyProof.Rows L2
def keyD : Key → PyData
  | .inl i => .int i
  | .inr x => .str x
/-- data: what stands at v, lists and dicts apart from the modules' table -/
inductive DX (S : Addr → Prop) (H : Hp) : V → PyData → Prop
  | non : DX S H .non .none
  | bl (b : Bool) : DX S H (.bl b) (.bool b)
  | int (i : Int) : DX S H (.int i) (.int i)
  | str (x : Str) : DX S H (.str x) (.str x)
  | lst {a : Addr} {xs : List V} {ds : List PyData} : H a = some (.lst xs) → a ≠ sysModules → ¬ S a → xs.length = ds.length → (∀ (i : Nat) (v : V) (d : PyData), xs[i]? = some v → ds[i]? = some d → DX S H v d) → DX S H (.ref a) (.list ds)
  | tup {a : Addr} {xs : List V} {ds : List PyData} : H a = some (.tup xs) → ¬ S a → xs.length = ds.length → (∀ (i : Nat) (v : V) (d : PyData), xs[i]? = some v → ds[i]? = some d → DX S H v d) → DX S H (.ref a) (.tuple ds)
  | dict {a : Addr} {kvs : List (Key × V)} {ds : List (PyData × PyData)} : H a = some (.dK kvs) → ¬ S a → kvs.length = ds.length → (∀ (i : Nat) (q : Key × V) (d : PyData × PyData), kvs[i]? = some q → ds[i]? = some d → keyD q.1 = d.1) → (∀ (i : Nat) (q : Key × V) (d : PyData × PyData), kvs[i]? = some q → ds[i]? = some d → DX S H q.2 d.2) → DX S H (.ref a) (.dict ds)
theorem vals_at : ∀ {xs : List V} {us : List Value} {i : Nat} {u : Value}, Vals xs us → us[i]? = some u → ∃ x, xs[i]? = some x ∧ RelV x u
  | _, _, _, _, .nil, e => by simp at e
  | _, _, 0, _, .cons r _, e => by
    cases e
    exact ⟨_, rfl, r⟩
  | _, _, i + 1, u, .cons _ t, e => by
    obtain ⟨x, h1, h2⟩ := vals_at (i := i) (u := u) t (by simpa using e)
    exact ⟨x, by simpa using h1, h2⟩
theorem get_len {α β : Type} {xs : List α} {ys : List β} {i : Nat} {y : β} (h : xs.length = ys.length) (e : ys[i]? = some y) : ∃ x, xs[i]? = some x := by
  have l := (List.getElem?_eq_some_iff.mp e).1
  exact ⟨xs[i], List.getElem?_eq_getElem (by omega)⟩
theorem readsAll_of {h : Heap} {R : List Addr → Prop} (nil : R []) (app : ∀ a b, R a → R b → R (a ++ b)) : ∀ (us : List Value) (ds : List PyData), us.length = ds.length → (∀ (i : Nat) (u : Value) (d : PyData), us[i]? = some u → ds[i]? = some d → ∃ as, Reads h u d as ∧ R as) → ∃ as, ReadsAll h us ds as ∧ R as
  | [], [], _, _ => ⟨[], .nil, nil⟩
  | u :: us, d :: ds, hl, hq => by
    obtain ⟨as, r1, q1⟩ := hq 0 u d rfl rfl
    obtain ⟨bs, r2, q2⟩ := readsAll_of nil app us ds (by simpa using hl) fun i u' d' h1 h2 => hq (i + 1) u' d' (by simpa using h1) (by simpa using h2)
    exact ⟨as ++ bs, .cons r1 r2, app _ _ q1 q2⟩
  | [], _ :: _, hl, _ => by cases hl
  | _ :: _, [], hl, _ => by cases hl
def Off (as : List Addr) : Prop := ∀ b ∈ as, b ≠ sysModules
theorem off_nil : Off [] := fun _ h => nomatch h
theorem off_app (a b : List Addr) (h1 : Off a) (h2 : Off b) : Off (a ++ b) := fun c h => (List.mem_append.mp h).elim (h1 c) (h2 c)
theorem off_cons {a : Addr} {as : List Addr} (h1 : a ≠ sysModules) (h2 : Off as) : Off (a :: as) := fun c h => by
  rcases List.mem_cons.mp h with e | e
  · rw [e]; exact h1
  · exact h2 c e
theorem pairs_at {prog : Program} {w : World} : ∀ {es : List DictEntry} {vs : List (Key × Value)} {kvs : List (Key × V)}, Pairs (mixKind prog w) es vs → KV kvs vs → es.length = kvs.length ∧ ∀ (i : Nat) (e : DictEntry) (p : Key × V), es[i]? = some e → kvs[i]? = some p → keyIs p.1 e.key = true ∧ RelV p.2 e.val
  | _, _, _, .nil, .nil => ⟨rfl, fun i e p h _ => by simp at h⟩
  | _, _, _, .cons h1 h2 h3, .cons r1 r2 => by
    obtain ⟨l, q⟩ := pairs_at h3 r2
    refine ⟨by simp [l], fun i e p he hp => ?_⟩
    cases i with
    | zero =>
      cases he
      cases hp
      refine ⟨?_, ?_⟩
      · rw [r1.1]; exact h1
      · rw [h2]; exact r1.2
    | succ i => exact q i e p (by simpa using he) (by simpa using hp)
section
variable {X : Cx} {pins : List (Addr × Obj)} {σ : L2.St} {H : Hp} {s : Shared}
theorem DX.reads (I : Inv X pins σ H s) {S : Addr → Prop} {v : V} {d : PyData} (D : DX S H v d) : ∀ u : Value, RelV v u → ∃ as, Reads s.heap u d as ∧ Off as := by
  induction D with
  | non =>
    intro u r
    cases r
    exact ⟨_, .none, off_nil⟩
  | bl b =>
    intro u r
    cases r
    exact ⟨_, .bool b, off_nil⟩
  | int i =>
    intro u r
    obtain ⟨t, rfl⟩ := r
    exact ⟨_, .int i t, off_nil⟩
  | str x =>
    intro u r
    obtain ⟨t, rfl⟩ := r
    exact ⟨_, .str x t, off_nil⟩
  | lst hs na _ hl _ ih =>
    intro u r
    cases r
    obtain ⟨its, rv, ⟨o, n, ho, hc, _, hd⟩, _⟩ := I.list (SqL.of hs)
    obtain ⟨as, hr, q⟩ := readsAll_of (h := s.heap) off_nil off_app its _ (rv.length.symm.trans hl) fun i u d h1 h2 => by
      obtain ⟨x, hx, rx⟩ := vals_at rv h1
      exact ih i x d hx h2 u rx
    exact ⟨_, .list ho hc hd hr, off_cons na q⟩
  | tup hs _ hl _ ih =>
    intro u r
    cases r
    obtain ⟨its, rv, ⟨o, ho, hc, n, hd⟩, _⟩ := I.tuple (SqT.of (K := X.K) hs)
    obtain ⟨as, hr, q⟩ := readsAll_of (h := s.heap) off_nil off_app its _ (rv.length.symm.trans hl) fun i u d h1 h2 => by
      obtain ⟨x, hx, rx⟩ := vals_at rv h1
      exact ih i x d hx h2 u rx
    exact ⟨_, .tuple ho hc hd hr, q⟩
  | @dict a kvs ds hs _ hl hq _ ih =>
    intro u r
    cases r
    obtain ⟨_, nsys, vs, rel, o, es, ep, ho, hx, hd, _, prs, _⟩ := dk_of I.hok hs
    obtain ⟨el, eat⟩ := pairs_at prs rel
    obtain ⟨as, ra, qa⟩ := readsAll_of (h := s.heap) off_nil off_app (es.toList.map (·.key)) (ds.map (·.1)) (by rw [List.length_map, List.length_map, el, hl]) fun i u d h1 h2 => by
      rw [List.getElem?_map, Option.map_eq_some_iff] at h1 h2
      obtain ⟨e, he, rfl⟩ := h1
      obtain ⟨q, hq2, rfl⟩ := h2
      obtain ⟨p, hp⟩ := get_len hl hq2
      have k1 := (eat i e p he hp).1
      have k2 := hq i p q hp hq2
      rw [← k2]
      rcases keyIs_shape k1 with ⟨j, t, e1, e2⟩ | ⟨x, t, e1, e2⟩
      · rw [e1, e2]
        exact ⟨_, .int j t, off_nil⟩
      · rw [e1, e2]
        exact ⟨_, .str x t, off_nil⟩
    obtain ⟨bs, rb, qb⟩ := readsAll_of (h := s.heap) off_nil off_app (es.toList.map (·.val)) (ds.map (·.2)) (by rw [List.length_map, List.length_map, el, hl]) fun i u d h1 h2 => by
      rw [List.getElem?_map, Option.map_eq_some_iff] at h1 h2
      obtain ⟨e, he, rfl⟩ := h1
      obtain ⟨q, hq2, rfl⟩ := h2
      obtain ⟨p, hp⟩ := get_len hl hq2
      exact ih i p q hp hq2 e.val (eat i e p he hp).2
    exact ⟨_, .dict ho hx.1 hd ra rb, off_app _ _ (off_cons (beq_eq_false_iff_ne.mp nsys) qa) qb⟩
/-- repr(x), x data -/
def rReprD : List V → Hp → VK → Prop := fun xs H Q => ∃ (S : Addr → Prop) (x : V) (d : PyData), xs = [x] ∧ DX S H x d ∧ d.showable = true ∧ d.shown.length ≤ sizeLine ∧ d.depth ≤ 60 ∧ Q (.str d.shown) H
theorem call_repr (hG : X.A.guards = some []) {k : Nat} (hr : Room k X.A) : CallR X (.builtin "repr") rReprD := by
  intro pins s σ H xs us Q I r h
  obtain ⟨S, x, d, rfl, D, hs, hz, hd, q⟩ := h
  cases r with
  | cons rx rn =>
    cases rn
    have hu := hr.units
    have D2 := D
    cases D with
    | non =>
      cases rx
      exact P.repr_of_none ⟨.str (PyData.shown .none), H, I.tok _, ⟨_, by simp only [PyData.shown] <;> rfl⟩, q⟩
    | bl b =>
      cases rx
      exact P.repr_of_bool ⟨.str (PyData.shown (.bool b)), H, I.tok _, ⟨_, by simp only [PyData.shown] <;> rfl⟩, q⟩
    | int i =>
      obtain ⟨t, rfl⟩ := rx
      exact P.repr_of_int (by simpa [PyData.showable] using hs) ⟨.str (PyData.shown (.int i)), H, I.tok _, ⟨_, by simp only [PyData.shown] <;> rfl⟩, q⟩
    | str y =>
      obtain ⟨t, rfl⟩ := rx
      exact P.repr_of_str ⟨.str (PyData.shown (.str y)), H, I.tok _, ⟨_, by simp only [PyData.shown] <;> rfl⟩, q⟩ (by simpa only [PyData.shown] using hz)
    | lst _ _ _ _ _ =>
      obtain ⟨as, rd, off⟩ := D2.reads I _ rx
      cases rx
      exact repr_of_reads' rd hs (fun _ m => off _ m rfl) hG (by omega) (fun _ _ e => e) (fun h' u tk hk => ⟨.str _, H, I.kept hk, ⟨_, rfl⟩, q⟩) hz
    | tup _ _ _ _ =>
      obtain ⟨as, rd, off⟩ := D2.reads I _ rx
      cases rx
      exact repr_of_reads' rd hs (fun _ m => off _ m rfl) hG (by omega) (fun _ _ e => e) (fun h' u tk hk => ⟨.str _, H, I.kept hk, ⟨_, rfl⟩, q⟩) hz
    | dict _ _ _ _ _ =>
      obtain ⟨as, rd, off⟩ := D2.reads I _ rx
      cases rx
      exact repr_of_reads' rd hs (fun _ m => off _ m rfl) hG (by omega) (fun _ _ e => e) (fun h' u tk hk => ⟨.str _, H, I.kept hk, ⟨_, rfl⟩, q⟩) hz
/-- a list that is laid stands apart from the modules' table -/
def tLstN (t : TA) : TE := fun σ H Q => t σ H fun xs H1 => xs.length ≤ sizeLine ∧ ∀ p, H1 p = none → p ≠ sysModules → Q (.ref p) (upd H1 p (.lst xs))
theorem pe_lstN {es : List Expr} {pos : Pos} {t : TA} (h : PA X es t) : PE X (.List es pos) (tLstN t) := by
  constructor
  intro pins s σ H Q I hq
  apply wpAny_List_spliced
  refine thn (h.run pos pins s σ H _ I hq) ?_
  rintro us s1 ⟨xs, H1, I1, r, z, q⟩
  have z2 : us.length ≤ sizeLine := by rw [← r.length]; exact z
  have new := I1.hok.fresh (Nat.le_refl s1.heap.objs.size)
  refine ⟨z2, .ref s1.heap.objs.size, upd H1 s1.heap.objs.size (.lst xs), I1.laid (t' := s1.toks) (fun b u e => Heap.get?_push_of_some _ e) (Nat.le_refl _) ⟨z, us, 0, r, Heap.get?_push_size _ rfl⟩, rfl, q _ new ?_⟩
  exact Nat.ne_of_gt I1.big
end
end Lp

set_option maxHeartbeats 4000000
/-! LpErr: errors of one's own as values: made, read, asked for their class. -/
namespace Lp
open PySem PySem.Spec PyProof.Rows L2
section
variable {prog : Program} {w : World} {A : Around} {E : Value → Shared → Prop} {K : PySem.W.Frag} {x D : Addr} {ox : Obj} {od : Option Obj}
theorem finds_class (C : ExcC K D) : PySem.W.findObj K D od "__class__" = some (.bind (.builtin "getset_descriptor.__get__") (.builtin "object.__class__")) := by
  obtain ⟨cd, hc, _⟩ := PySem.W.any_some C.hd
  simp only [PySem.W.findObj, hc, Option.bind_some, C.ha, C.hn, C.ht]
/-- x.__class__ of an error that may have a dict -/
theorem err_class (C : ExcC K D) {s : Shared} {Q : Option Value → Shared → Prop} (inK : K.In s.heap) (J : PySem.W.InstAt s.heap x ox D od) (q : Q (some (.ref D)) { s with toks := s.toks + 1 }) :
    wpAny (model prog w) A (getAttr? (.ref x) "__class__") Q E s := by
  obtain ⟨hp, gs, dr, tk, os⟩ := s
  have lt := J.type (M := model prog w)
  have lg := PySem.W.looks_findIn (M := model prog w) inK C.hg
  have lk := PySem.W.looks_findIn (M := model prog w) inK C.hk
  have lf := PySem.W.looks_find (M := model prog w) inK J (finds_class C)
  have li : PySem.W.Looks (model prog w) hp (isInstance (.ref x) (.type "BaseException")) true :=
    lt.andThen (PySem.W.looks_subIn inK C.hs)
  have n2 : (Value.builtin "BaseException.__getattribute__" == Value.builtin "object.__getattribute__") = false := by decide +kernel
  have n1 : (onTheHeap (Value.ref D) && Value.builtin "BaseException.__getattribute__" == Value.builtin "object.__getattribute__") = false := by
    rw [n2]; rfl
  have n0 : (false && onTheHeap (Value.builtin "BaseException.__getattribute__")) = false := rfl
  unfold getAttr?
  unfold getAttrBy?
  unfold getAttrBy
  apply wpAny_bind; apply wpAny_mkText
  apply wpAny_bind; apply wpAny_attempt; apply wpAny_holding
  apply wpAny_bind
  apply lt.at
  apply wpAny_bind
  apply lg.at
  show wpAny _ _ (ite _ _ _) _ _ _
  rw [n1, if_neg Bool.false_ne_true]
  unfold getAttrByItsOwn
  unfold hookBefore
  apply wpAny_bind
  rw [if_pos (show onTheHeap (Value.ref D) = true from rfl)]
  apply lk.at
  apply wpAny_bind; apply wpAny_attempt; apply wpAny_holding
  unfold callGetattribute
  rw [n0, if_neg Bool.false_ne_true]
  unfold boundAndCalled
  rw [PySem.F.excAttr_ValueError.ga.bind (.ref x)]
  apply wpAny_bind; apply wpAny_pure
  show wpAny _ _ (call (.builtin "BaseException.__getattribute__") [.ref x, .str "__class__" tk]) _ _ _
  apply wpAny_call
  apply codeAny_call_builtin PySem.F.excAttr_ValueError.ga.plain PySem.F.entry_bexc_ga
  refine @PySem.W.check_slot (model prog w) _ _ ⟨hp, gs, dr, tk + 1, os⟩ "BaseException.__getattribute__" "BaseException" "__getattribute__" (.ref x)
    [.str "__class__" tk] [] _ (by decide +kernel) (by decide +kernel) li (PySem.F.args_bexc_ga (.ref x) (.str "__class__" tk)) ?_
  unfold Builtin.«object.__getattribute__»
  apply wpAny_bind
  apply wpAny_of_eq (a := ((Value.ref x : Value), [Value.str "__class__" tk])) rfl
  apply wpAny_bind; apply wpAny_pure
  apply wpAny_bind
  apply lt.at
  apply wpAny_bind
  apply lf.at
  show wpAny _ _ (holding [Value.builtin "object.__class__"] _ >>= ret) _ _ _
  apply wpAny_bind; apply wpAny_holding; apply wpAny_call
  apply PySem.W.class_get (s := ⟨hp, gs, dr, tk + 1, os⟩) (ox := ox) (od := od) inK J C.hm
  apply wpAny_pure
  show wpAny _ _ (handedOut (.ref D)) _ _ _
  rw [PySem.W.handedOut_of (v := .ref D) rfl]
  first
    | exact wpAny_pure (wpAny_pure q)
    | exact wpAny_pure q
    | exact wpAny_pure (wpAny_bind (wpAny_pure (wpAny_pure q)))
/-- what isinstance asks of an error -/
theorem err_kit (C : ExcC K D) : PySem.W.KitX K (.ref x) (.ref D) (fun h => PySem.W.InstAt h x ox D od) := by
  obtain ⟨cd, hc, _⟩ := PySem.W.any_some C.hd
  unfold PySem.W.clsIn at hc
  split at hc
  · rename_i c1 d1 cd1 sl1 ho
    refine ⟨fun _ _ _ J => J.type, fun _ _ inK _ => ?_, fun h tp dd its n sl inK htp => ?_, fun inK J q => err_class C inK J q⟩
    · intro A' Q' E' s' k q
      unfold isType loadHead
      exact wpAny_bind (wpAny_loadPart (k _ _ (inK _ _ ho)) (wpAny_pure q))
    · refine Bool.eq_false_iff.mpr fun z => ?_
      have e : D = tp := Value.ref.inj (beq_iff_eq.mp z)
      rw [← e] at htp
      have y := (inK _ _ ho).symm.trans htp
      cases y
  · cases hc
end
/-- an error stands at a: its class C, its fields fs -/
def ErrAt (H : Hp) (a C : Addr) (fs : List (Str × V)) : Prop := ∃ d : Addr, H a = some (exo a C (some d)) ∧ H d = some (exd d fs)
theorem ErrAt.keep {H H' : Hp} {a C : Addr} {fs : List (Str × V)} (h : ErrAt H a C fs) (k : ∀ b o, H b = some o → H' b = some o) : ErrAt H' a C fs := by
  obtain ⟨d, h1, h2⟩ := h
  exact ⟨d, k _ _ h1, k _ _ h2⟩
/-- what the written part says of a class of errors, its __init__ at fI (its own, or one above's) -/
structure ErrC (K : PySem.W.Frag) (C fI : Addr) : Prop where
  ox : OexC K C
  ex : ExcC K C
  iC : PySem.W.findIn K (.ref C) "__init__" = some (some (.ref fI))
section
variable {X : Cx} {e : Expr} {es : List Expr} {te : TE} {ta : TA} {f x : Str} {p pos : Pos} {C fI : Addr}
theorem err_inst {pins : List (Addr × Obj)} {σ : L2.St} {H : Hp} {s : Shared} {a : Addr} {fs : List (Str × V)} (I : Inv X pins σ H s) (h : ErrAt H a C fs) :
    ∃ (ox od : Obj) (m : Str → Option Value), PySem.W.InstAt s.heap a ox C (some od) ∧ (∀ g, RelO (fs.lookup g) (m g)) ∧ ∀ g, PySem.W.lookIn g od = some (m g) := by
  obtain ⟨d, h1, h2⟩ := h
  obtain ⟨t1, e1⟩ := exo_at I.hok h1
  obtain ⟨m, hn, hr⟩ := exd_at I.hok h2
  obtain ⟨od, ho, hl⟩ := lookIn_ns hn
  exact ⟨_, od, m, ⟨e1, rfl, rfl, ho⟩, hr, hl⟩
/-- e.f, e an error -/
def tEf (K : PySem.W.Frag) (f : Str) (te : TE) : TE := fun σ H Q => te σ H fun x H1 => ∃ (a C : Addr) (fs : List (Str × V)) (v : V), x = .ref a ∧ ErrAt H1 a C fs ∧ ExcC K C ∧ PySem.W.findIn K (.ref C) f = some none ∧ fs.lookup f = some v ∧ Q v H1
theorem pe_efld (he : PE X e te) (hb : attributeBase e f X.env (eval e X.env) = eval e X.env := by rfl) : PE X (.Attribute e f pos) (tEf X.K f te) := by
  constructor
  intro pins s σ H Q I h
  refine attr_of hb (thn (he.run pins s σ H _ I h) ?_)
  rintro u s1 ⟨x, H1, I1, rx, a, C, fs, v, rfl, ea, xc, no, l, q⟩
  cases rx
  obtain ⟨ox, od, m, J, hr, hl⟩ := err_inst I1 ea
  obtain ⟨w', hw, rw'⟩ := RelO.some_of (v := v) (o := m f) (by rw [← l]; exact hr f)
  refine PySem.HandSPX.exc_get I1.kIn J xc.hg xc.hk xc.hs (PySem.W.findObj_own xc.hd no rfl (by rw [hl, hw])) (handed_of rw') ?_
  exact ⟨v, H1, I1.tok _, rw', q⟩
/-- isinstance(e, c), e an error -/
def rIsErr (K : PySem.W.Frag) : List V → Hp → VK → Prop := fun xs H Q => ∃ (a C : Addr) (fs : List (Str × V)) (c : V) (u : Value) (b : Bool), xs = [.ref a, c] ∧ ErrAt H a C fs ∧ ExcC K C ∧ ClsV c u ∧ PySem.W.kitOne K (.ref C) u = some b ∧ Q (.bl b) H
theorem call_isErr : CallR X (.builtin "isinstance") (rIsErr X.K) := by
  intro pins s σ H xs us Q I r h
  obtain ⟨a, C, fs, c, u, b, rfl, ea, xc, cv, e, q⟩ := h
  cases r with
  | cons rx rr =>
    cases rr with
    | cons rt rn =>
      cases rn
      cases rx
      have ec := cv.eq rt
      subst ec
      obtain ⟨ox, od, m, J, _, _⟩ := err_inst I ea
      exact PySem.W.kia_one (err_kit xc) I.kIn J e (fun z => nomatch z) fun tk => ⟨.bl b, H, I.kept (t' := tk) fun _ _ z => z, rfl, q⟩
/-- C(e, ..) as a value -/
def tErr (C : Addr) (sp : Sp) (ta : TA) : TE := fun σ H Q => ta σ H fun vs H1 => vs.length ≤ 1000 ∧ ∀ a, H1 a = none → sp (.ref a :: vs) (upd H1 a (exo a C none)) (fun v H2 => v = .non ∧ Q (.ref a) H2) (fun _ _ _ => False)
theorem pe_err {CX : CXT} {k : Nat} {fd : FuncData} {ps : List Str} {sp : Sp} (T : ErrC X.K C fI) (tI : PySem.W.typeIn X.K (.ref fI) = some (.type "function")) (F : FnOk X.prog X.w X.K X.mg X.base CX k fI fd ps sp) (hr : Room (k + 1) X.A) (hb : Binds X.K fd ps [])
    (hx : Passes CX X (fun _ _ _ => False)) (hg : Gl X x) (hm : X.mg x = some (.ref C)) (ha : PA X (e :: es) ta)
    (hdb : (x == ("__debug__" : Str)) = false := by decide) (he : starEach (e :: es) X.env = (false, eval e X.env) :: starEach es X.env := by rfl) (hpl : (backTo pos (starEach es X.env)).any (·.1) = false := by rfl) :
    PE X (.Call (.Name x p) (e :: es) [] pos) (tErr C sp ta) := by
  constructor
  intro pins s σ H Q I h
  obtain ⟨nm, q, N, bs, bm, sn, sub, ab, col, dd, k0, k1, k2, k3, k5, hC, hbm⟩ := T.ox.cls
  refine wpAny_Call_Name_kw (ld_glob I hg hm ?_ hdb)
  refine PySem.W.callWith_K (h₀ := X.base) I.ok.mod.kin T.ox.kC (thn (ha.run pos pins s σ H _ I h) ?_) he hpl
  rintro us s1 ⟨vs, H1, I1, r1, hz, q1⟩
  refine ⟨I1.kIn, ?_⟩
  show wpAny _ _ (call (.ref C) us) _ _ _
  obtain ⟨hp, g, dr, tk, os⟩ := s1
  have n1 : hp.objs.size ≤ hp.objs.size + 1 := Nat.le_succ _
  have new := I1.hok.fresh n1
  have hq := q1 (hp.objs.size + 1) new
  have old : ∀ b o, hp.get? b = some o → ((hp.push (PySem.W.kdv_tup us)).push (PySem.HandSPX.excO C hp.objs.size)).get? b = some o := fun b o z => Heap.get?_push_of_some _ (Heap.get?_push_of_some _ z)
  have at_ : ((hp.push (PySem.W.kdv_tup us)).push (PySem.HandSPX.excO C hp.objs.size)).get? (hp.objs.size + 1) = some (PySem.HandSPX.excO C hp.objs.size) := by heap_get
  have I2 : Inv X pins σ (upd H1 (hp.objs.size + 1) (exo (hp.objs.size + 1) C none)) ⟨((hp.push (PySem.W.kdv_tup us)).push (PySem.HandSPX.excO C hp.objs.size)), g, dr, tk, os⟩ := I1.laid (t' := tk) old n1 (exo_ok at_)
  have rel : Vals (V.ref (hp.objs.size + 1) :: vs) (Value.ref (hp.objs.size + 1) :: us) := .cons rfl r1
  have len : (Value.ref (hp.objs.size + 1) :: us ++ []).length = ps.length := by
    rw [List.append_nil, ← rel.length]
    exact F.len _ _ _ _ hq
  have few : us.length ≤ sizeLine := by
    rw [← r1.length, sizeLine_eq]
    omega
  have bnd := hb _ (Value.ref (hp.objs.size + 1) :: us) I2.kIn len
  rw [List.append_nil] at bnd
  have run := F.run _ X.stack _ _ ⟨Value.ref (hp.objs.size + 1) :: us, []⟩ (Value.ref (hp.objs.size + 1) :: us) _ _ (fun _ _ _ => False) (hr.make C us []) (I2.env0.make C us []) bnd rel hq
  apply wpAny_call
  refine PySem.HandSPX.call_own PySem.F.excBase_ValueError (fun Y => PySem.HandSPX.refsVE_contains Y bm hbm) (I1.kIn _ _ hC) (PySem.W.looks_findIn I1.kIn T.iC) (fun self => PySem.W.bind_fn I1.kIn self tI) few (codeAny_mono run ?_)
  intro r s' hq'
  match r, hq' with
  | .error er, hq' => exact hx pins σ _ _ er s' I2 hq'
  | .ok (.ret u), ⟨v, H2, os2, bare2, un2, hok2, rv, ev, q2⟩ =>
    rw [ev] at rv
    have eu : u = Value.none := rv
    refine ⟨eu, (.ref (hp.objs.size + 1)), H2, ?_, rfl, q2⟩
    exact I2.call' (ch := []) os2 un2 hok2 bare2 (fun b z => absurd z (by simp))
end
end Lp

set_option maxHeartbeats 4000000
/-! LpDat: readings of written data. -/
namespace Lp
open PySem PySem.Spec PyProof.Rows L2
/-- what stands outside of S stays -/
def Out (S : Addr → Prop) (H H' : Hp) : Prop := ∀ b o, ¬ S b → H b = some o → H' b = some o
theorem DX.keep {S : Addr → Prop} {H H' : Hp} {v : V} {d : PyData} (D : DX S H v d) (k : Out S H H') : DX S H' v d := by
  induction D with
  | non => exact .non
  | bl b => exact .bl b
  | int i => exact .int i
  | str x => exact .str x
  | lst h1 h2 h3 h4 _ ih => exact .lst (k _ _ h3 h1) h2 h3 h4 ih
  | tup h1 h3 h4 _ ih => exact .tup (k _ _ h3 h1) h3 h4 ih
  | dict h1 h3 h4 h5 _ ih => exact .dict (k _ _ h3 h1) h3 h4 h5 ih
theorem DX.mono {S S' : Addr → Prop} {H : Hp} {v : V} {d : PyData} (D : DX S H v d) (k : ∀ a, S' a → S a) : DX S' H v d := by
  induction D with
  | non => exact .non
  | bl b => exact .bl b
  | int i => exact .int i
  | str x => exact .str x
  | lst h1 h2 h3 h4 _ ih => exact .lst h1 h2 (fun z => h3 (k _ z)) h4 ih
  | tup h1 h3 h4 _ ih => exact .tup h1 (fun z => h3 (k _ z)) h4 ih
  | dict h1 h3 h4 h5 _ ih => exact .dict h1 (fun z => h3 (k _ z)) h4 h5 ih
/-- all of these are these data -/
def DXs (S : Addr → Prop) (H : Hp) (vs : List V) (ds : List PyData) : Prop := vs.length = ds.length ∧ ∀ (i : Nat) (v : V) (d : PyData), vs[i]? = some v → ds[i]? = some d → DX S H v d
section
variable {S S' : Addr → Prop} {H H' : Hp} {v : V} {vs ws : List V} {d : PyData} {ds es : List PyData} {a : Addr}
theorem DXs.nil : DXs S H [] [] := ⟨rfl, fun i v d h _ => by simp at h⟩
theorem DXs.cons (h : DX S H v d) (t : DXs S H vs ds) : DXs S H (v :: vs) (d :: ds) := by
  refine ⟨by simp [t.1], fun i x y hx hy => ?_⟩
  cases i with
  | zero =>
    cases hx
    cases hy
    exact h
  | succ i => exact t.2 i x y (by simpa using hx) (by simpa using hy)
theorem DXs.keep (t : DXs S H vs ds) (k : Out S H H') : DXs S H' vs ds := ⟨t.1, fun i v d h1 h2 => (t.2 i v d h1 h2).keep k⟩
theorem DXs.mono (t : DXs S H vs ds) (k : ∀ a, S' a → S a) : DXs S' H vs ds := ⟨t.1, fun i v d h1 h2 => (t.2 i v d h1 h2).mono k⟩
theorem DXs.append (s : DXs S H vs ds) (t : DXs S H ws es) : DXs S H (vs ++ ws) (ds ++ es) := by
  refine ⟨by rw [List.length_append, List.length_append, s.1, t.1], fun i x y hx hy => ?_⟩
  by_cases h : i < vs.length
  · rw [List.getElem?_append_left h] at hx
    rw [List.getElem?_append_left (by rw [← s.1]; exact h)] at hy
    exact s.2 i x y hx hy
  · rw [List.getElem?_append_right (by omega)] at hx
    rw [List.getElem?_append_right (by rw [← s.1]; omega), ← s.1] at hy
    exact t.2 _ x y hx hy
theorem DXs.lst (t : DXs S H vs ds) (h : H a = some (.lst vs)) (n1 : a ≠ sysModules) (n2 : ¬ S a) : DX S H (.ref a) (.list ds) := .lst h n1 n2 t.1 t.2
theorem DXs.tup (t : DXs S H vs ds) (h : H a = some (.tup vs)) (n2 : ¬ S a) : DX S H (.ref a) (.tuple ds) := .tup h n2 t.1 t.2
theorem DXs.at {i : Nat} (t : DXs S H vs ds) (h : vs[i]? = some v) : ∃ d, d ∈ ds ∧ DX S H v d := by
  obtain ⟨d, hd⟩ := get_len t.1.symm h
  exact ⟨d, List.mem_of_getElem? hd, t.2 i v d h hd⟩
end
theorem _root_.L2.Same.refl' {H : Hp} : Same H H := fun _ _ h => h
theorem _root_.L2.Same.new' {H H' : Hp} {a : Addr} {o : HO} (s : Same H H') (n : H' a = none) : Same H (upd H' a o) := fun b u h => by
  rw [upd_ne (ne_of_none (s b u h) n)]
  exact s b u h
theorem _root_.L2.Same.trans' {H H1 H2 : Hp} (a : Same H H1) (b : Same H1 H2) : Same H H2 := fun c u h => b c u (a c u h)
theorem _root_.L2.Same.butP {p : Addr} {H H' : Hp} (s : Same H H') : But p H H' := fun b u _ h => s b u h
theorem _root_.L2.Same.out {S : Addr → Prop} {H H' : Hp} (s : Same H H') : Out S H H' := fun b u _ h => s b u h
theorem But.out {p : Addr} {S : Addr → Prop} {H H' : Hp} (s : But p H H') (h : S p) : Out S H H' := fun b u n e => s b u (fun z => n (by rw [z]; exact h)) e
theorem Out.trans {S : Addr → Prop} {H H1 H2 : Hp} (a : Out S H H1) (b : Out S H1 H2) : Out S H H2 := fun c u n h => b c u n (a c u n h)
theorem Out.put {S : Addr → Prop} {H H' : Hp} {a : Addr} {o : HO} (s : Out S H H') (h : S a) : Out S H (upd H' a o) := fun b u n e => by
  rw [upd_ne (fun z => n (by rw [z]; exact h))]
  exact s b u n e
theorem Out.new {S : Addr → Prop} {H H' : Hp} {a : Addr} {o : HO} (s : Out S H H') (n : H' a = none) : Out S H (upd H' a o) := fun b u nb e => by
  rw [upd_ne (ne_of_none (s b u nb e) n)]
  exact s b u nb e
theorem Out.refl {S : Addr → Prop} {H : Hp} : Out S H H := fun _ _ _ e => e
theorem _root_.L2.Same.thereP {p : Addr} {H H' : Hp} (s : Same H H') (h : H p ≠ none) : H' p ≠ none := by
  intro z
  apply h
  cases e : H p with
  | none => rfl
  | some o =>
    have y := s p o e
    rw [z] at y
    cases y
theorem new_ne {p a : Addr} {H : Hp} (h : H p ≠ none) (n : H a = none) : a ≠ p := fun z => h (by rw [← z]; exact n)
/-- what is tracked -/
def Trk (H : Hp) : Addr → Prop := fun q => H q ≠ none
theorem Same.trk {H H' : Hp} (s : Same H H') (q : Addr) (h : Trk H q) : Trk H' q := s.thereP h
theorem not_trk {H H' : Hp} {a : Addr} (s : Same H H') (n : H' a = none) : ¬ Trk H a := fun h => s.thereP h n
/-- a reading that gives the data d, all of it new, and leaves all that stood -/
def Dat (te : TE) (d : PyData) : Prop := ∀ (σ : L2.St) (H : Hp) (Q : VK), (∀ v H', Same H H' → DX (Trk H) H' v d → Q v H') → te σ H Q
def Dats (ta : TA) (ds : List PyData) : Prop := ∀ (σ : L2.St) (H : Hp) (Q : List V → Hp → Prop), (∀ vs H', Same H H' → DXs (Trk H) H' vs ds → Q vs H') → ta σ H Q
section
variable {te : TE} {ta : TA} {d : PyData} {ds : List PyData}
theorem Dat.non : Dat (tC .non) .none := fun σ H Q k => k _ _ Same.refl' .non
theorem Dat.bl (b : Bool) : Dat (tC (.bl b)) (.bool b) := fun σ H Q k => k _ _ Same.refl' (.bl b)
theorem Dat.int (i : Int) : Dat (tC (.int i)) (.int i) := fun σ H Q k => k _ _ Same.refl' (.int i)
theorem Dat.str (x : Str) : Dat (tC (.str x)) (.str x) := fun σ H Q k => k _ _ Same.refl' (.str x)
theorem Dats.nil : Dats tNil [] := fun σ H Q k => k _ _ Same.refl' .nil
theorem Dats.cons (h : Dat te d) (t : Dats ta ds) : Dats (tCons te ta) (d :: ds) := fun σ H Q k => by
  refine h σ H _ fun v H1 s1 d1 => ?_
  refine t σ H1 _ fun vs H2 s2 d2 => ?_
  exact k _ _ (s1.trans' s2) (.cons (d1.keep s2.out) (d2.mono fun q h => s1.thereP h))
theorem Dat.tup (t : Dats ta ds) (hl : ds.length ≤ 1000) : Dat (tTup ta) (.tuple ds) := fun σ H Q k => by
  refine t σ H _ fun vs H1 s1 d1 => ⟨?_, fun a na => ?_⟩
  · rw [d1.1, sizeLine_eq]
    omega
  · exact k _ _ (s1.new' na) ((d1.keep (Out.refl.new na)).tup upd_same (not_trk s1 na))
theorem Dat.lst (t : Dats ta ds) (hl : ds.length ≤ 1000) : Dat (tLstN ta) (.list ds) := fun σ H Q k => by
  refine t σ H _ fun vs H1 s1 d1 => ⟨?_, fun a na n1 => ?_⟩
  · rw [d1.1, sizeLine_eq]
    omega
  · exact k _ _ (s1.new' na) ((d1.keep (Out.refl.new na)).lst upd_same n1 (not_trk s1 na))
theorem Dat.nodict : Dat tDNewK (.dict []) := fun σ H Q k => by
  intro a na
  refine k _ _ (Same.new' Same.refl' na) (.dict upd_same (not_trk Same.refl' na) rfl (fun i q d h _ => ?_) (fun i q d h _ => ?_))
  · simp at h
  · simp at h
theorem Dat.neg (i : Int) : Dat (tUn (rU fun z => .int (-z)) (tC (.int i))) (.int (-i)) := fun σ H Q k => ⟨_, rfl, k _ _ Same.refl' (.int _)⟩
theorem Dat.pow (i j : Int) (h : CPow i j) : Dat (tOp (rI CPow fun i j => .int (i ^ j.toNat)) (tC (.int i)) (tC (.int j))) (.int (i ^ j.toNat)) := fun σ H Q k => ⟨_, _, rfl, rfl, h, k _ _ Same.refl' (.int _)⟩
end
end Lp

set_option maxHeartbeats 4000000
/-! LpPa: items of displays and arguments by their kind: no look at what follows. -/
namespace Lp
open PySem PySem.Spec PyProof.Rows L2
section
variable {X : Cx} {es : List Expr} {te : TE} {t : TA} {p : Pos}
theorem pa_c {c : Const} {k : Nat} (ha : PE X (.Constant c k p) te) (hr : PA X es t) : PA X (.Constant c k p :: es) (tCons te t) := pa_cons ha hr rfl
theorem pa_t {xs : List Expr} {k : Nat} (ha : PE X (.Tuple xs k p) te) (hr : PA X es t) : PA X (.Tuple xs k p :: es) (tCons te t) := pa_cons ha hr rfl
theorem pa_l {xs : List Expr} (ha : PE X (.List xs p) te) (hr : PA X es t) : PA X (.List xs p :: es) (tCons te t) := pa_cons ha hr rfl
theorem pa_n {x : Str} (ha : PE X (.Name x p) te) (hr : PA X es t) : PA X (.Name x p :: es) (tCons te t) := pa_cons ha hr rfl
theorem pa_f {f : Expr} {xs : List Expr} {ks : List Keyword} (ha : PE X (.Call f xs ks p) te) (hr : PA X es t) : PA X (.Call f xs ks p :: es) (tCons te t) := pa_cons ha hr rfl
theorem pa_u {o : UnaryOp} {a : Expr} (ha : PE X (.UnaryOp o a p) te) (hr : PA X es t) : PA X (.UnaryOp o a p :: es) (tCons te t) := pa_cons ha hr rfl
theorem pa_b {o : Operator} {a b : Expr} (ha : PE X (.BinOp a o b p) te) (hr : PA X es t) : PA X (.BinOp a o b p :: es) (tCons te t) := pa_cons ha hr rfl
theorem pa_d {ks : List (Option Expr)} {vs : List Expr} (ha : PE X (.Dict ks vs p) te) (hr : PA X es t) : PA X (.Dict ks vs p :: es) (tCons te t) := pa_cons ha hr rfl
theorem pa_a {a : Expr} {x : Str} (ha : PE X (.Attribute a x p) te) (hr : PA X es t) : PA X (.Attribute a x p :: es) (tCons te t) := pa_cons ha hr rfl
theorem pa_s {a b : Expr} (ha : PE X (.Subscript a b p) te) (hr : PA X es t) : PA X (.Subscript a b p :: es) (tCons te t) := pa_cons ha hr rfl
theorem pa_q {a : Expr} {os : List CmpOp} {bs : List Expr} (ha : PE X (.Compare a os bs p) te) (hr : PA X es t) : PA X (.Compare a os bs p :: es) (tCons te t) := pa_cons ha hr rfl
end
/-! heads of readings, one at a time -/
section
variable {te tf : TE} {g : TG} {t u : TS} {D : Ends} {σ : L2.St} {H : Hp} {ta : TA} {tc : TT} {Q : VK}
theorem seq_asg (h : te σ H fun x H1 => g x σ H1 (u D)) : tSeq (tAsg te g) u D σ H := h
theorem seq_set {i : Nat} (h : te σ H fun x H1 => u D (σ.set i (some x)) H1) : tSeq (tAsg te (gName i)) u D σ H := h
theorem seq_drop (h : te σ H fun _ H1 => u D σ H1) : tSeq (tDrop te) u D σ H := h
theorem seq_if {v : TS} (h : tc σ H fun c H1 => if c = true then t { D with nx := v D } σ H1 else u { D with nx := v D } σ H1) : tSeq (tIfS tc t u) v D σ H := h
theorem ret_of (h : te σ H D.rt) : tRet te D σ H := h
theorem lst_of (h : ta σ H fun xs H1 => xs.length ≤ sizeLine ∧ ∀ p, H1 p = none → Q (.ref p) (upd H1 p (.lst xs))) : tLst ta σ H Q := h
theorem lstN_of (h : ta σ H fun xs H1 => xs.length ≤ sizeLine ∧ ∀ p, H1 p = none → p ≠ sysModules → Q (.ref p) (upd H1 p (.lst xs))) : tLstN ta σ H Q := h
theorem tup_of (h : ta σ H fun xs H1 => xs.length ≤ sizeLine ∧ ∀ p, H1 p = none → Q (.ref p) (upd H1 p (.tup xs))) : tTup ta σ H Q := h
theorem cons_of {R : List V → Hp → Prop} (h : te σ H fun x H1 => ta σ H1 fun xs H2 => R (x :: xs) H2) : tCons te ta σ H R := h
theorem nil_of {R : List V → Hp → Prop} (h : R [] H) : tNil σ H R := h
theorem var_of {i : Nat} {v : V} (e : σ[i]? = some (some v)) (h : Q v H) : tVar i σ H Q := ⟨v, e, h⟩
theorem op_of {r : R2} (h : te σ H fun x H1 => tf σ H1 fun y H2 => r x y H2 Q) : tOp r te tf σ H Q := h
theorem call_of {sp : Sp} {dvs : List V} {E : XK} (h : ta σ H fun vs H1 => sp (vs ++ dvs) H1 Q E) : tCall sp dvs E ta σ H Q := h
theorem cb_of {r : List V → Hp → VK → Prop} (h : ta σ H fun vs H1 => r vs H1 Q) : tCB r ta σ H Q := h
end
section
variable {te tf : TE} {g : TG} {D : Ends} {σ : L2.St} {H : Hp} {ta : TA} {tc td : TT} {Q : VK}
theorem gname_of {i : Nat} {v : V} {R : L2.St → Hp → Prop} (h : R (σ.set i (some v)) H) : gName i v σ H R := h
theorem not_of {R : Bool → Hp → Prop} (h : tc σ H fun c H1 => R (!c) H1) : tNot tc σ H R := h
theorem tb_of {R : Bool → Hp → Prop} (h : te σ H fun x H1 => ∃ c, x = .bl c ∧ R c H1) : tB te σ H R := h
theorem test_of {R : Bool → Hp → Prop} (h : te σ H fun x H1 => ∃ c, x = .bl c ∧ R c H1) : tTest te σ H R := h
theorem or_of {R : Bool → Hp → Prop} (h : tc σ H fun c H1 => if c = true then R true H1 else td σ H1 R) : tOr tc td σ H R := h
theorem andv_of (h : te σ H fun x H1 => ∃ c, x = .bl c ∧ if c = true then tf σ H1 Q else Q (.bl false) H1) : tAndV te tf σ H Q := h
theorem notv_of (h : te σ H fun x H1 => ∃ c, x = .bl c ∧ Q (.bl (!c)) H1) : tNotV te σ H Q := h
end
theorem yes_if {σ : L2.St} {H : Hp} {A B : Hp → Prop} (h : A H) : tYes σ H fun b H3 => if b = true then A H3 else B H3 := by
  show if true = true then A H else B H
  rw [if_pos rfl]
  exact h
theorem bl_true {R : Bool → Prop} {b : Bool} (e : b = true) (h : R true) : R b := by rw [e]; exact h
/-- over enumerate(list), the body leaving the list as it is -/
theorem for_enum {K : PySem.W.Frag} {a : Addr} {xs : List V} {g : TG} {tb : TS} {D : Ends} {σ : L2.St} {H : Hp} (Pv : Nat → L2.St → Hp → Prop) (h0 : Pv 0 σ H) (hl : ∀ i σ H, i ≤ xs.length → Pv i σ H → SqL K H a xs)
    (hs : ∀ i x σ H T, xs[i]? = some x → Pv i σ H → H T = none → g (.ref T) σ (upd H T (.tup [.int (i : Nat), x])) fun σ2 H2 => tb { D with nx := Pv (i + 1), ct := Pv (i + 1), bk := D.nx } σ2 H2) (hd : ∀ σ H, Pv xs.length σ H → D.nx σ H) :
    ∃ W : Nat → Nat → L2.St → Hp → Prop, (∃ m, W 0 m σ H) ∧ ∀ i m σ H, W i m σ H →
      ((Ite K a).stop i H ∧ D.nx σ H) ∨ ((Ite K a).go i H ∧ ∃ N : L2.St → Hp → Prop, (∀ σ' H', N σ' H' → ∃ m', m' < m ∧ W (i + 1) m' σ' H') ∧ ∀ x H', (Ite K a).yld i H x H' → g x σ H' fun σ2 H2 => tb { D with nx := N, ct := N, bk := D.nx } σ2 H2) := by
  refine ⟨fun i m σ H => m + i = xs.length ∧ Pv i σ H, ⟨xs.length, rfl, h0⟩, ?_⟩
  intro i m σ H hw
  have le : i ≤ xs.length := by have := hw.1; omega
  have sq := hl i σ H le hw.2
  cases m with
  | zero =>
    have e : i = xs.length := by have := hw.1; omega
    have p := hw.2
    rw [e] at p
    exact Or.inl ⟨⟨xs, sq, by omega⟩, hd σ H p⟩
  | succ m =>
    have lt : i < xs.length := by have := hw.1; omega
    refine Or.inr ⟨⟨xs, xs[i], sq, List.getElem?_eq_getElem lt⟩, Pv (i + 1), fun σ' H' p => ⟨m, Nat.lt_succ_self m, by have := hw.1; omega, p⟩, ?_⟩
    rintro x H' ⟨T, y, rfl, nT, rfl, hy⟩
    exact hs i y σ H T (hy xs sq) hw.2 nT
/-- an address taken, then changed: what stood before stands -/
theorem But.fresh {p a : Addr} {H H' : Hp} {o o' : HO} (b : But p (upd H a o) H') (n : H a = none) : But p H (upd H' a o') := fun c u nc h => by
  have ne := ne_of_none h n
  rw [upd_ne ne]
  exact b c u nc (by rw [upd_ne ne]; exact h)
section
variable {X : Cx} {es : List Expr} {te : TE} {t : TA} {p : Pos}
theorem pa_lc {e : Expr} {gs : List Comprehension} {sc : Scope} (ha : PE X (.ListComp e gs sc p) te) (hr : PA X es t) : PA X (.ListComp e gs sc p :: es) (tCons te t) := pa_cons ha hr rfl
end
end Lp

set_option maxHeartbeats 4000000
/-! LpErrs: lists of errors made, lists of what they are. -/
namespace Lp
open PySem PySem.Spec PyProof.Rows L2
/-- an __init__ that keeps its only argument as value -/
def spInit (K : PySem.W.Frag) : Sp := fun vs H Q _ => ∃ (a C : Addr) (v : V), vs = [.ref a, v] ∧ OexC K C ∧ PySem.W.findIn K (.ref C) "value" = some none ∧ H a = some (exo a C none) ∧
  ∀ d : Addr, H d = none → d ≠ a → Q .non (upd (upd H d (exd d [("value", v)])) a (exo a C (some d)))
/-- what is known of a class of errors -/
structure ErrF (K : PySem.W.Frag) (C fI : Addr) : Prop where
  c : ErrC K C fI
  no : PySem.W.findIn K (.ref C) "value" = some none
/-- C(j)(v) for each j -/
def tMk (K : PySem.W.Frag) (C : Nat → Addr) : List Nat → TA
  | [] => tNil
  | j :: js => tCons (tErr (C j) (spInit K) (tCons (tVar 0) tNil)) (tMk K C js)
/-- the errors of these numbers, each with v -/
def Errs (C : Nat → Addr) (v : V) (H : Hp) (as : List Addr) (js : List Nat) : Prop := as.length = js.length ∧ ∀ (i j : Nat), js[i]? = some j → ∃ a : Addr, as[i]? = some a ∧ ErrAt H a (C j) [("value", v)]
section
variable {K : PySem.W.Frag} {C : Nat → Addr} {v : V} {H H' : Hp} {as bs : List Addr} {js ks : List Nat} {fI l : Addr}
theorem exo_lst {e D : Addr} {d : Option Addr} {xs : List V} : exo e D d ≠ .lst xs := fun z => by
  have z' : HO.ext _ = HO.lst xs := z
  cases z'
theorem exd_lst {e : Addr} {fs : List (Str × V)} {xs : List V} : exd e fs ≠ .lst xs := fun z => by
  have z' : HO.ext _ = HO.lst xs := z
  cases z'
theorem ErrAt.keepB {a D : Addr} {fs : List (Str × V)} {xs : List V} (h : ErrAt H a D fs) (hl : H l = some (.lst xs)) (k : But l H H') : ErrAt H' a D fs := by
  obtain ⟨d, h1, h2⟩ := h
  exact ⟨d, k _ _ (ne_of h1 hl exo_lst) h1, k _ _ (ne_of h2 hl exd_lst) h2⟩
theorem Errs.nil : Errs C v H [] [] := ⟨rfl, fun i j h => by simp at h⟩
theorem Errs.cons {a : Addr} {j : Nat} (h : ErrAt H a (C j) [("value", v)]) (t : Errs C v H as js) : Errs C v H (a :: as) (j :: js) := by
  refine ⟨by simp [t.1], fun i j' hj => ?_⟩
  cases i with
  | zero =>
    cases hj
    exact ⟨a, rfl, h⟩
  | succ i =>
    obtain ⟨b, hb, q⟩ := t.2 i j' (by simpa using hj)
    exact ⟨b, by simpa using hb, q⟩
theorem Errs.map {as : List Addr} (t : Errs C v H as js) (k : ∀ a D, ErrAt H a D [("value", v)] → ErrAt H' a D [("value", v)]) : Errs C v H' as js := ⟨t.1, fun i j hj => by
  obtain ⟨a, ha, q⟩ := t.2 i j hj
  exact ⟨a, ha, k _ _ q⟩⟩
theorem Errs.append (s : Errs C v H as js) (t : Errs C v H bs ks) : Errs C v H (as ++ bs) (js ++ ks) := by
  refine ⟨by simp [s.1, t.1], fun i j hj => ?_⟩
  by_cases h : i < js.length
  · rw [List.getElem?_append_left h] at hj
    obtain ⟨a, ha, q⟩ := s.2 i j hj
    exact ⟨a, by rw [List.getElem?_append_left (by rw [s.1]; exact h)]; exact ha, q⟩
  · rw [List.getElem?_append_right (by omega)] at hj
    obtain ⟨a, ha, q⟩ := t.2 _ j hj
    exact ⟨a, by rw [List.getElem?_append_right (by rw [s.1]; omega), s.1]; exact ha, q⟩
theorem mk_all (hC : ∀ j, ErrF K (C j) fI) : ∀ (js : List Nat) (σ : L2.St) (H : Hp) (Q : List V → Hp → Prop), σ[0]? = some (some v) → (∀ as H', Same H H' → Errs C v H' as js → Q (as.map V.ref) H') → tMk K C js σ H Q
  | [], σ, H, Q, _, k => k [] H Same.refl' .nil
  | j :: js, σ, H, Q, h0, k => by
    unfold tMk tCons tErr
    refine ⟨v, h0, by show 1 ≤ 1000; decide, fun a na => ⟨a, C j, v, rfl, (hC j).c.ox, (hC j).no, upd_same, fun d nd ne => ⟨rfl, ?_⟩⟩⟩
    have nd' : H d = none := by
      rw [upd_ne ne] at nd
      exact nd
    have e : upd (upd (upd H a (exo a (C j) none)) d (exd d [("value", v)])) a (exo a (C j) (some d)) = upd (upd H d (exd d [("value", v)])) a (exo a (C j) (some d)) := by
      funext b
      by_cases hb : b = a
      · rw [hb, upd_same, upd_same]
      · rw [upd_ne hb, upd_ne hb]
        by_cases hd : b = d
        · rw [hd, upd_same, upd_same]
        · rw [upd_ne hd, upd_ne hd, upd_ne hb]
    rw [e]
    have na' : upd H d (exd d [("value", v)]) a = none := by
      rw [upd_ne (Ne.symm ne)]
      exact na
    have s1 : Same H (upd (upd H d (exd d [("value", v)])) a (exo a (C j) (some d))) := (Same.new' Same.refl' nd').new' na'
    refine mk_all hC js σ _ _ h0 fun as H' s2 t => ?_
    refine k (a :: as) H' (s1.trans' s2) (.cons ⟨d, s2 _ _ upd_same, s2 _ _ ?_⟩ t)
    rw [upd_ne ne, upd_same]
/-- found.extend([.. made ..]) -/
theorem ext_made (hC : ∀ j, ErrF K (C j) fI) {σ : L2.St} {Q : VK} (h0 : σ[0]? = some (some v)) (h1 : σ[1]? = some (some (.ref l))) (hl : H l = some (.lst (as.map V.ref))) (he : Errs C v H as js) (few : js.length + ks.length ≤ 1000)
    (k : ∀ H' bs, But l H H' → H' l = some (.lst ((as ++ bs).map V.ref)) → Errs C v H' (as ++ bs) (js ++ ks) → Q .non H') : tBM K "list" rExtend (tVar 1) (tCons (tLst (tMk K C ks)) tNil) σ H Q := by
  unfold tBM tVar
  refine ⟨_, h1, .inl ⟨rfl, _, SqL.of hl⟩, ?_⟩
  unfold tCons tLst
  refine mk_all hC ks σ H _ h0 fun bs H1 s1 t => ?_
  have hb : bs.length = ks.length := t.1
  have ha : as.length = js.length := he.1
  refine ⟨by rw [List.length_map, hb, sizeLine_eq]; omega, fun b nb => ?_⟩
  have hl1 := s1 _ _ hl
  have nlb := ne_of_none hl1 nb
  have s2 := s1.new' nb (o := .lst (bs.map V.ref))
  have hl2 := s2 _ _ hl
  refine ⟨l, b, _, _, rfl, rfl, hl2, upd_same, by rw [List.length_map, List.length_map, ha, hb, sizeLine_eq]; omega, ?_⟩
  have bt : But l H (upd (upd H1 b (.lst (bs.map V.ref))) l (.lst (as.map V.ref ++ bs.map V.ref))) := s2.butP.put
  refine k _ bs bt (by rw [upd_same, List.map_append]) (Errs.append (he.map fun a D q => q.keepB hl bt) (t.map fun a D q => ?_))
  have q2 : ErrAt (upd H1 b (.lst (bs.map V.ref))) a D [("value", v)] := q.keep (Same.new' Same.refl' nb)
  exact q2.keepB hl2 (But.put But.refl)
/-- isinstance(e, C(j)) for each j -/
def tIs (K : PySem.W.Frag) (C : Nat → Addr) : List Nat → TA
  | [] => tNil
  | j :: js => tCons (tCB (rIsErr K) (tCons (tVar 0) (tCons (tC (.ref (C j))) tNil))) (tIs K C js)
theorem is_all {a D : Addr} {fs : List (Str × V)} {g : Nat → Bool} (he : ErrAt H a D fs) (xc : ExcC K D) (hg : ∀ j, PySem.W.kitOne K (.ref D) (.ref (C j)) = some (g j)) :
    ∀ (js : List Nat) (σ : L2.St) (Q : List V → Hp → Prop), σ[0]? = some (some (.ref a)) → Q (js.map fun j => V.bl (g j)) H → tIs K C js σ H Q
  | [], σ, Q, _, k => k
  | j :: js, σ, Q, h0, k => by
    unfold tIs tCons tCB
    refine ⟨_, h0, a, D, fs, _, _, _, rfl, he, xc, .own _, hg j, ?_⟩
    exact is_all he xc hg js σ _ h0 k
/-- found.extend([.. isinstance ..]) -/
theorem ext_is {a D : Addr} {fs : List (Str × V)} {g : Nat → Bool} {σ : L2.St} {Q : VK} (he : ErrAt H a D fs) (xc : ExcC K D) (hg : ∀ j, PySem.W.kitOne K (.ref D) (.ref (C j)) = some (g j)) (h0 : σ[0]? = some (some (.ref a))) (h1 : σ[1]? = some (some (.ref l)))
    (hl : H l = some (.lst (js.map fun j => V.bl (g j)))) (few : js.length + ks.length ≤ 1000)
    (k : ∀ H', But l H H' → H' l = some (.lst ((js ++ ks).map fun j => V.bl (g j))) → ErrAt H' a D fs → Q .non H') : tBM K "list" rExtend (tVar 1) (tCons (tLst (tIs K C ks)) tNil) σ H Q := by
  unfold tBM tVar
  refine ⟨_, h1, .inl ⟨rfl, _, SqL.of hl⟩, ?_⟩
  unfold tCons tLst
  refine is_all he xc hg ks σ _ h0 ?_
  refine ⟨by rw [List.length_map, sizeLine_eq]; omega, fun b nb => ?_⟩
  have s2 : Same H (upd H b (.lst (ks.map fun j => V.bl (g j)))) := Same.new' Same.refl' nb
  refine ⟨l, b, _, _, rfl, rfl, s2 _ _ hl, upd_same, by rw [List.length_map, List.length_map, sizeLine_eq]; omega, ?_⟩
  have bt : But l H (upd (upd H b (.lst (ks.map fun j => V.bl (g j)))) l (.lst ((js.map fun j => V.bl (g j)) ++ ks.map fun j => V.bl (g j)))) := s2.butP.put
  exact k _ bt (by rw [upd_same, List.map_append]) (he.keepB hl bt)
end
/-- what stood stands, if l did not -/
theorem But.same {l : Addr} {H H' : Hp} (b : But l H H') (n : H l = none) : Same H H' := fun c o h => b c o (ne_of_none h n) h
/-- behind C(v): a new error stands -/
theorem err_post {K : PySem.W.Frag} {C fI : Addr} {v : V} {H : Hp} {R : Addr → Hp → Prop} (F : ErrF K C fI) (h : ∀ (a : Addr) (H' : Hp), Same H H' → ErrAt H' a C [("value", v)] → R a H') :
    [v].length ≤ 1000 ∧ ∀ a, H a = none → spInit K (.ref a :: [v]) (upd H a (exo a C none)) (fun u H2 => u = .non ∧ R a H2) (fun _ _ _ => False) := by
  refine ⟨by show 1 ≤ 1000; decide, fun a na => ⟨a, C, v, rfl, F.c.ox, F.no, upd_same, fun d nd ne => ⟨rfl, ?_⟩⟩⟩
  have nd' : H d = none := by
    rw [upd_ne ne] at nd
    exact nd
  refine h a _ (fun b o e => ?_) ⟨d, upd_same, by rw [upd_ne ne, upd_same]⟩
  have nb := ne_of_none e na
  rw [upd_ne nb, upd_ne (ne_of_none e nd'), upd_ne nb]
  exact e
theorem put_new {H G : Hp} {D : Addr} {o : HO} (s : Same H G) (n : H D = none) : Same H (upd G D o) := fun b u e => by
  rw [upd_ne (ne_of_none e n)]
  exact s b u e
theorem c_of {v : V} {σ : L2.St} {H : Hp} {Q : VK} (h : Q v H) : tC v σ H Q := h
theorem if_of {tc : TT} {t u : TS} {D : Ends} {σ : L2.St} {H : Hp} (h : tc σ H fun c H1 => if c = true then t D σ H1 else u D σ H1) : tIfS tc t u D σ H := h
theorem all_true (n : Nat) : (List.replicate n true).all id = true := by
  rw [List.all_eq_true]
  intro x hx
  rw [(List.mem_replicate.mp hx).2]
  rfl
theorem any_false {α : Type} (l : List α) : (l.map fun _ => false).any id = false := by
  rw [List.any_eq_false]
  intro x hx
  obtain ⟨_, _, e⟩ := List.mem_map.mp hx
  rw [← e]
  exact Bool.false_ne_true
theorem dpAll_bl {K : PySem.W.Frag} {H : Hp} : ∀ bs : List Bool, DpAll K H (bs.map V.bl) (bs.map PyData.bool)
  | [] => .nil
  | b :: bs => .cons (.bl b) (dpAll_bl bs)
end Lp

set_option maxHeartbeats 4000000
namespace K00
open PySem PySem.Spec PyProof.Rows L2 Lp
def top (i : Nat) : Stmt := PySem.Challenge.pw_factpairs_k00_errors_keep_their_value.main.body.getD i (.Pass ⟨0, 0, 0, 0⟩)
abbrev sPot : Stmt := top 32
abbrev sTake : Stmt := top 33
structure TxtN (mg : Str → Option Value) : Prop where
  len : mg "len" = none
  int : mg "int" = none
  abs : mg "abs" = none
section
variable {P : Program} {w : World} {K : PySem.W.Frag} {mg : Str → Option Value} {base : Heap}
theorem scPot : FnScope potN ["_law_script", "_law_place"] (defScope sPot) := ⟨rfl, rfl, rfl, by decide +kernel, rfl, by decide +kernel, by decide +kernel⟩
theorem pot_cell {a : Addr} {ns : List Int} {place : Nat} {σ : L2.St} {H : Hp} {u v : Int} {Q : VK} (s0 : σ[0]? = some (some (.ref a))) (s1 : σ[1]? = some (some (.int (place : Int)))) (hS : SqL K H a (ns.map V.int)) (hb : ∀ z ∈ ns, Builtin.Int.intBits z ≤ 1048576) (hp : place ≤ 1000)
    (hu : u.natAbs < 2 ^ 60) (hv : v.natAbs < 2 ^ 60)
    (h : ∀ cell : Int, cell.natAbs < 2 ^ 1048577 → Q (.int cell) H) :
    tIf (tB (tLt (tVar 1) (tCB (rLn K) (tCons (tVar 0) tNil)))) (tOp (rIxL K) (tVar 0) (tVar 1)) (tOp (rI0 fun i j => .int (i + j)) (tOp (rI CMul fun i j => .int (i * j)) (tC (.int u)) (tVar 1)) (tC (.int v))) σ H Q := by
  refine ⟨_, s1, _, s0, V.ref a, (ns.map V.int).length, rfl, .inl ⟨_, hS, rfl⟩, place, _, rfl, rfl, _, rfl, ?_⟩
  have hlen : (ns.map V.int).length = ns.length := List.length_map _
  refine ite2 (fun c => ?_) (fun c => ?_)
  · have c' : place < ns.length := by
      have := of_decide_eq_true c
      rw [hlen] at this; omega
    refine ⟨_, s0, _, s1, a, _, _, .int ns[place], rfl, rfl, hS, atI_nat (by simp [c']), h _ ?_⟩
    exact Nat.lt_of_lt_of_le (bits_of (hb _ (List.getElem_mem c'))) (Nat.pow_le_pow_right (by decide) (by decide))
  · refine ⟨_, s1, _, _, rfl, rfl, .inr ⟨by omega, by omega⟩, _, _, rfl, rfl, h _ ?_⟩
    refine Nat.lt_of_lt_of_le (m := 2 ^ 100) ?_ (Nat.pow_le_pow_right (by decide) (by decide))
    have h1 : (u * (place : Int)).natAbs ≤ 2 ^ 60 * 1000 := by
      rw [Int.natAbs_mul]
      exact Nat.mul_le_mul (Nat.le_of_lt hu) (by omega)
    have h2 : (u * (place : Int) + v).natAbs ≤ (u * (place : Int)).natAbs + v.natAbs := Int.natAbs_add_le _ _
    omega
theorem ok_pot {f : Addr} {fd : FuncData} (F : Fun K "_law_pot" "_law_pot" sPot f fd) (T : TxtN mg) : FnOk P w K mg base CX0 1 f fd ["_law_script", "_law_place"] (spPot K) := by
  refine F.ok scPot (fun vs H Q E h => ?_) (fun cdv A outer s H vs Q E hr h => ?_)
  · obtain ⟨a, ns, place, rfl, _⟩ := h
    rfl
  · obtain ⟨a, ns, place, rfl, hS, hb, hp, k⟩ := h
    refine ⟨_, pss_cons (ps_set (i := 2) scPot.nd rfl (Or.inl rfl) (pe_ifExp (pt_cmp (pc_lt (pv 1) (pe_callB call_len (by rfl) T.len boot_len (pa_cons (pv 0) pa_nil)))) (pe_ix ix_list (pv 0) (pv 1) (fun _ _ => rfl)) (pe_op op_add (pe_op op_mul pe_int (pv 1)) pe_int)))
      (pss_cons (ps_set (i := 3) scPot.nd rfl (Or.inl rfl) (pe_op op_mulW (pe_op op_mod (pe_callTy call_int1 (by rfl) T.int (by decide +kernel) (pa_cons (pe_callB call_abs (by rfl) T.abs (by decide +kernel) (pa_cons (pv 2) pa_nil)) pa_nil)) (pe_op op_powW (pe_op op_powW pe_int pe_int) pe_int)) (pe_callTy call_int1 (by rfl) T.int (by decide +kernel) (pa_cons (pe_cmpR op_ge (pe_callB call_abs (by rfl) T.abs (by decide +kernel) (pa_cons (pv 2) pa_nil)) (pe_op op_powW pe_int pe_int) (nomark _)) pa_nil))))
      (pss_cons (ps_set (i := 4) scPot.nd rfl (Or.inl rfl) (pe_op op_mod (pe_callTy call_int1 (by rfl) T.int (by decide +kernel) (pa_cons (pv 2) pa_nil)) pe_int))
      (pss_one (ps_ret (pe_lst (pa_cons (pv 3) (pa_cons (pe_op op_mod (pe_callTy call_int1 (by rfl) T.int (by decide +kernel) (pa_cons (pe_op op_add (pe_op op_add (pe_op op_mul (pv 4) pe_int) (pe_op op_mul (pe_op op_mul pe_int (pv 1)) (pv 1))) pe_int) pa_nil)) pe_int) (pa_cons pe_int pa_nil)))))))), ?_⟩
    refine pot_cell (K := K) (a := a) (ns := ns) (place := place) (u := 71) (v := 31) rfl rfl hS hb hp (by decide) (by decide) fun cell hc => ?_
    refine ⟨_, rfl, _, rfl, .inl ⟨_, rfl, _, _, rfl, rfl, ⟨by decide, by decide +kernel⟩, _, _, rfl, rfl, ⟨by decide, by decide +kernel⟩, _, _, rfl, rfl, ownLine_pos, _, rfl, _, rfl, _, _, rfl, rfl, ⟨by decide, by decide +kernel⟩, _, _, rfl, rfl, .inr ⟨_, rfl, _, _, rfl, rfl, ?_, ?_⟩⟩⟩
    · refine wide_mul (a := 1000) (b := 2) (lt_pow (small_mod ownLine_pos).1 ?_) ?_ (by decide) (by decide) (by decide)
      · exact Int.lt_trans (small_mod ownLine_pos).2 ownLine_lt
      · exact bit_abs _
    · refine ⟨_, rfl, .inl ⟨_, rfl, _, _, rfl, rfl, by show (0 : Int) < 2305843009213693951; decide, ?_⟩⟩
      have hs := small_mod (a := cell) (b := 2305843009213693951) (by decide)
      refine ⟨_, rfl, _, rfl, _, _, rfl, rfl, .inr ⟨by decide, by decide⟩, _, rfl, _, _, rfl, rfl, .inl ⟨by decide, by decide⟩, _, rfl, _, _, rfl, rfl, .inl ⟨by omega, by omega⟩, _, _, rfl, rfl, _, _, rfl, rfl, .inl ⟨_, rfl, _, _, rfl, rfl, by show (0 : Int) < 2305843009213693921; decide, ?_⟩⟩
      refine ⟨by show 3 ≤ sizeLine; decide, fun p hp => k p _ _ hp ⟨?_, ?_, (small_mod (by decide)).1, ?_⟩⟩
      · exact own_0 _ _
      · exact own_1 _ _
      · exact Int.lt_trans (small_mod (by decide)).2 (by decide)
theorem scTake : FnScope takeN ["_law_pot_here", "_law_upto"] (defScope sTake) := ⟨rfl, rfl, rfl, by decide +kernel, rfl, by decide +kernel, by decide +kernel⟩
theorem ok_take {f : Addr} {fd : FuncData} (F : Fun K "_law_take" "_law_take" sTake f fd) (T : TxtN mg) : FnOk P w K mg base CX0 1 f fd ["_law_pot_here", "_law_upto"] spTake := by
  refine F.ok scTake (fun vs H Q E h => ?_) (fun cdv A outer s H vs Q E hr h => ?_)
  · obtain ⟨p, own, mix, c, n, rfl, _⟩ := h
    rfl
  · obtain ⟨p, own, mix, c, n, rfl, hp, hI, hc, hn, hn2, k⟩ := h
    refine ⟨_, pss_cons (ps_if (pt_cmpR op_gt (pe_ix ix_list (pv 0) pe_int (fun _ _ => rfl)) pe_int (nomark _))
        (pss_cons (ps_set (i := 2) scTake.nd rfl (Or.inl rfl) (pe_op op_mod (pe_callTy call_int1 (by rfl) T.int (by decide +kernel) (pa_cons (pe_ix ix_list (pv 0) pe_int (fun _ _ => rfl)) pa_nil)) (pv 1)))
        (pss_cons (ps_asg (pe_op op_fdivW (pe_ix ix_list (pv 0) pe_int (fun _ _ => rfl)) (pv 1)) (pg_sub (pv 0) pe_int set_list)) (pss_one (ps_ret (pv 2))))) pss_nil)
      (pss_cons (ps_asg (pe_op op_add (pe_ix ix_list (pv 0) pe_int (fun _ _ => rfl)) pe_int) (pg_sub (pv 0) pe_int set_list))
      (pss_cons (ps_set (i := 3) scTake.nd rfl (Or.inl rfl) (pe_ix ix_list (pe_lst (pa_cons pe_int (pa_cons pe_int (pa_cons pe_int (pa_cons pe_int (pa_cons pe_int pa_nil)))))) (pe_op op_mod (pe_callTy call_int1 (by rfl) T.int (by decide +kernel) (pa_cons (pe_ix ix_list (pv 0) pe_int (fun _ _ => rfl)) pa_nil)) pe_int) (fun _ _ => rfl)))
      (pss_cons (ps_set (i := 4) scTake.nd rfl (Or.inl rfl) (pe_op op_mod (pe_callTy call_int1 (by rfl) T.int (by decide +kernel) (pa_cons (pe_op op_pow (pe_callTy call_int1 (by rfl) T.int (by decide +kernel) (pa_cons (pe_op op_add (pe_op op_add (pe_ix ix_list (pv 0) pe_int (fun _ _ => rfl)) (pe_op op_mul (pe_op op_mul pe_int (pe_ix ix_list (pv 0) pe_int (fun _ _ => rfl))) (pe_ix ix_list (pv 0) pe_int (fun _ _ => rfl)))) pe_int) pa_nil)) pe_int) pa_nil)) (pv 3)))
      (pss_cons (ps_set (i := 4) scTake.nd rfl (Or.inl rfl) (pe_op op_mod (pe_callTy call_int1 (by rfl) T.int (by decide +kernel) (pa_cons (pe_op op_mul (pv 4) (pe_op op_add (pe_op op_mod (pe_callTy call_int1 (by rfl) T.int (by decide +kernel) (pa_cons (pv 4) pa_nil)) pe_int) (pe_op op_mul pe_int (pe_ix ix_list (pv 0) pe_int (fun _ _ => rfl))))) pa_nil)) pe_int))
      (pss_one (ps_ret (pe_op op_mod (pe_callTy call_int1 (by rfl) T.int (by decide +kernel) (pa_cons (pe_op op_fdiv (pv 4) pe_int) pa_nil)) (pv 1)))))))), ?_⟩
    refine ⟨_, rfl, p, _, _, _, rfl, rfl, SqL.of hp, rfl, _, _, rfl, rfl, _, rfl, ?_⟩
    have n0 : (0 : Int) < (n : Int) := by omega
    refine ite2 (fun h0 => ?_) (fun h0 => ?_)
    · have own0 : 0 < own := of_decide_eq_true h0
      refine ⟨_, rfl, p, _, _, _, rfl, rfl, SqL.of hp, rfl, .inl ⟨_, rfl, _, rfl, _, _, rfl, rfl, n0, ?_⟩⟩
      refine ⟨_, rfl, p, _, _, _, rfl, rfl, SqL.of hp, rfl, _, rfl, _, _, rfl, rfl, wide_div n0 (b := 64) (by omega) (by decide) (by decide), ?_⟩
      refine ⟨_, rfl, p, _, _, 0, rfl, rfl, hp, rfl, _, rfl, ?_⟩
      have hm := take_mod own n0
      have e : own % (n : Int) = (((own % (n : Int)).toNat : Nat) : Int) := by have := hm.1; omega
      show Q (.int (own % (n : Int))) _
      rw [e]
      exact k _ _ (own / (n : Int)) c (by have := hm.1; have := hm.2; omega) (But.put But.refl) upd_same ⟨Int.ediv_nonneg hI.o0 (by omega), Int.lt_of_le_of_lt (Int.ediv_le_self _ hI.o0) hI.o1, hI.m0, hI.m1⟩ (Nat.le_refl _) (Nat.le_succ _)
    · refine ⟨_, rfl, p, _, _, _, rfl, rfl, SqL.of hp, rfl, _, _, rfl, rfl, ?_⟩
      refine ⟨_, rfl, p, _, _, 2, rfl, rfl, hp, rfl, ?_⟩
      refine ⟨by show 5 ≤ sizeLine; decide, fun q hq => ?_⟩
      have npq : p ≠ q := fun z => by
        rw [← z, upd_same] at hq
        cases hq
      have hp1 : upd (upd H p (.lst ([V.int own, V.int mix, V.int (c : Int)].set 2 (V.int ((c : Int) + 1))))) q (.lst [V.int 2147483647, V.int 2147483629, V.int 2147483587, V.int 2147483579, V.int 2147483563]) p = some (PotV own mix (c + 1)) := by
        rw [upd_ne npq, upd_same]
        rfl
      obtain ⟨pr, e5, pr0, pr1⟩ := five (z := (c : Int) + 1) (a := 2147483647) (b := 2147483629) (c := 2147483587) (d := 2147483579) (e := 2147483563) (by decide) (by decide) (by decide) (by decide) (by decide)
      refine ⟨_, rfl, p, _, _, _, rfl, rfl, SqL.of hp1, rfl, .inl ⟨_, rfl, _, _, rfl, rfl, by show (0 : Int) < 5; decide, q, _, _, _, rfl, rfl, SqL.of upd_same, e5, ?_⟩⟩
      refine ⟨_, rfl, p, _, _, _, rfl, rfl, SqL.of hp1, rfl, _, rfl, p, _, _, _, rfl, rfl, SqL.of hp1, rfl, _, _, rfl, rfl, .inl ⟨by decide, by decide⟩, _, rfl, p, _, _, _, rfl, rfl, SqL.of hp1, rfl, _, _, rfl, rfl, .inr ⟨by omega, by omega⟩, _, _, rfl, rfl, _, _, rfl, rfl, .inl ⟨_, rfl, _, _, rfl, rfl, ⟨by decide, by decide, mix_abs hI.m0 hI.m1 hc (by decide) (by decide) (by decide) (by decide)⟩, .inl ⟨_, rfl, _, rfl, _, _, rfl, rfl, pr0, ?_⟩⟩⟩
      have h4 := take_mod ((mix + 99601 * ((c : Int) + 1) * ((c : Int) + 1) + 53) ^ (3 : Int).toNat) pr0
      refine ⟨_, rfl, _, rfl, .inl ⟨_, rfl, _, _, rfl, rfl, by show (0 : Int) < 10427; decide, _, rfl, p, _, _, _, rfl, rfl, SqL.of hp1, rfl, _, _, rfl, rfl, .inl ⟨by decide, by decide⟩, _, _, rfl, rfl, _, _, rfl, rfl, .inl ⟨Int.lt_of_lt_of_le (by decide) h4.1, Int.lt_trans h4.2 (by omega)⟩, .inl ⟨_, rfl, _, _, rfl, rfl, by show (0 : Int) < 2305843009213693907; decide, ?_⟩⟩⟩
      refine ⟨_, rfl, _, _, rfl, rfl, ⟨by decide, by decide⟩, .inl ⟨_, rfl, _, rfl, _, _, rfl, rfl, n0, ?_⟩⟩
      refine nat_of (fun z => Q (.int z) _) (take_mod _ n0).1 ?_
      exact k _ _ own (c + 1) (nat_lt (take_mod _ n0).1 (take_mod _ n0).2) ((But.put But.refl).new hq) hp1 hI (Nat.le_succ _) (Nat.le_refl _)
end
end K00

set_option maxHeartbeats 4000000
namespace Lp
open PySem PySem.Spec PyProof.Rows L2
/-- a pot stands at p; at most c were drawn -/
def PotAt (H : Hp) (p : Addr) (c : Nat) : Prop := ∃ (own mix : Int) (n : Nat), H p = some (PotV own mix n) ∧ PotIs own mix ∧ n ≤ c
theorem PotAt.there {H : Hp} {p : Addr} {c : Nat} (h : PotAt H p c) : H p ≠ none := by
  obtain ⟨_, _, _, e, _⟩ := h
  rw [e]
  intro z
  cases z
theorem PotAt.keep {H H' : Hp} {p : Addr} {c : Nat} (h : PotAt H p c) (s : Same H H') : PotAt H' p c := by
  obtain ⟨o, m, n, e, r⟩ := h
  exact ⟨o, m, n, s _ _ e, r⟩
theorem PotAt.mono {H : Hp} {p : Addr} {c c' : Nat} (h : PotAt H p c) (l : c ≤ c') : PotAt H p c' := by
  obtain ⟨o, m, n, e, r, q⟩ := h
  exact ⟨o, m, n, e, r, Nat.le_trans q l⟩
/-- one of the items of the list at a, drawn -/
def spOf : Sp := fun vs H Q _ => ∃ (p a : Addr) (xs : List V) (c : Nat), vs = [.ref p, .ref a] ∧ PotAt H p c ∧ c < 99999 ∧ H a = some (.lst xs) ∧ a ≠ p ∧ xs ≠ [] ∧ xs.length ≤ 100000 ∧
  ∀ (H' : Hp) (v : V) (k : Nat), xs[k]? = some v → But p H H' → PotAt H' p (c + 1) → Q v H'
/-- the places of the cells that are looked at -/
def spCells (K : PySem.W.Frag) : Sp := fun vs H Q _ => ∃ (a : Addr) (ns : List Int) (m : Nat), vs = [.ref a, .int (m : Int)] ∧ SqL K H a (ns.map V.int) ∧ 1 ≤ m ∧ m ≤ 100 ∧ ns.length ≤ 100 ∧
  ∀ (q : Addr) (n : Nat), H q = none → n ≤ m → Q (.ref q) (upd H q (.lst (rgV 0 (n : Int))))
end Lp
namespace K00
open PySem PySem.Spec PyProof.Rows L2 Lp
abbrev sOf : Stmt := top 34
abbrev sCells : Stmt := top 35
abbrev sOdd : Stmt := top 36
structure TxtM (K : PySem.W.Frag) (mg : Str → Option Value) (fTake fOf : Addr) : Prop where
  n : TxtN mg
  range : mg "range" = none
  list : mg "list" = none
  max : mg "max" = none
  min : mg "min" = none
  gTake : mg "_law_take" = some (.ref fTake)
  kTake : PySem.W.keepIn K (.ref fTake) = true
  gOf : mg "_law_of" = some (.ref fOf)
  kOf : PySem.W.keepIn K (.ref fOf) = true
section
variable {P : Program} {w : World} {K : PySem.W.Frag} {mg : Str → Option Value} {base : Heap} {fTake fOf : Addr}
theorem scOf : FnScope ["_law_pot_here", "_law_some"] ["_law_pot_here", "_law_some"] (defScope sOf) := ⟨rfl, rfl, rfl, by decide +kernel, rfl, by decide +kernel, by decide +kernel⟩
theorem ok_of {f : Addr} {fd fdT : FuncData} (F : Fun K "_law_of" "_law_of" sOf f fd) (T : TxtM K mg fTake fOf) (GT : FnOk P w K mg base CX0 1 fTake fdT ["_law_pot_here", "_law_upto"] spTake) (bT : Binds K fdT ["_law_pot_here", "_law_upto"] []) :
    FnOk P w K mg base CX0 2 f fd ["_law_pot_here", "_law_some"] spOf := by
  refine F.ok scOf (fun vs H Q E h => ?_) (fun cdv A outer s H vs Q E hr h => ?_)
  · obtain ⟨p, a, xs, c, rfl, _⟩ := h
    rfl
  · obtain ⟨p, a, xs, c, rfl, ⟨own, mix, n, hp, hI, hn⟩, hc, ha, nap, ne, hl, k⟩ := h
    refine ⟨_, pss_one (ps_ret (pe_ix ix_list (pv 1) (pe_call GT hr rfl T.gTake T.kTake bT .nil pass0 (pa_cons (pv 0) (pa_cons (pe_callB call_len_seq (by rfl) T.n.len PySem.boot_len (pa_cons (pv 1) pa_nil)) pa_nil))) (fun _ _ => rfl))), ?_⟩
    have pos : 0 < xs.length := List.length_pos_iff.mpr ne
    refine ⟨_, rfl, _, rfl, _, rfl, a, xs, rfl, .inl (SqL.of ha), p, own, mix, n, xs.length, rfl, hp, hI, by omega, pos, by omega, fun H' i own' c' hi bt hp' hI' _ hc' => ?_⟩
    refine ⟨a, xs, _, xs[i], rfl, rfl, SqL.of (bt _ _ nap ha), atI_nat (List.getElem?_eq_getElem hi), ?_⟩
    exact k H' _ i (List.getElem?_eq_getElem hi) bt ⟨own', mix, c', hp', hI', by omega⟩
theorem scCells : FnScope ["_law_script", "_law_limit"] ["_law_script", "_law_limit"] (defScope sCells) := ⟨rfl, rfl, rfl, by decide +kernel, rfl, by decide +kernel, by decide +kernel⟩
theorem ok_cells {f : Addr} {fd : FuncData} (F : Fun K "_law_cells" "_law_cells" sCells f fd) (T : TxtM K mg fTake fOf) : FnOk P w K mg base CX0 1 f fd ["_law_script", "_law_limit"] (spCells K) := by
  refine F.ok scCells (fun vs H Q E h => ?_) (fun cdv A outer s H vs Q E hr h => ?_)
  · obtain ⟨a, ns, m, rfl, _⟩ := h
    rfl
  · obtain ⟨a, ns, m, rfl, hS, m1, m2, hl, k⟩ := h
    refine ⟨_, pss_one (ps_ret (pe_listRg rfl (by rfl) T.list (prg_1 (by rfl) T.range (pe_callB (call_max2 rfl) (by rfl) T.max (by decide +kernel) (pa_cons pe_int (pa_cons (pe_callB (call_min2 rfl) (by rfl) T.min (by decide +kernel) (pa_cons (pv 1) (pa_cons (pe_callB call_len_seq (by rfl) T.n.len PySem.boot_len (pa_cons (pv 0) pa_nil)) pa_nil))) pa_nil)))))), ?_⟩
    refine ⟨_, rfl, _, rfl, _, _, rfl, .inl hS, _, _, rfl, _, _, rfl, _, rfl, ?_⟩
    have e : (ns.map V.int).length = ns.length := List.length_map _
    have hN : ∃ n : Nat, n ≤ m ∧ (if (if ((ns.map V.int).length : Int) < (m : Int) then ((ns.map V.int).length : Int) else (m : Int)) > 1 then (if ((ns.map V.int).length : Int) < (m : Int) then ((ns.map V.int).length : Int) else (m : Int)) else 1) = (n : Int) := by
      rw [e]
      by_cases h1 : ((ns.length : Nat) : Int) < (m : Int)
      · rw [if_pos h1]
        by_cases h2 : ((ns.length : Nat) : Int) > 1
        · rw [if_pos h2]
          exact ⟨ns.length, by omega, rfl⟩
        · rw [if_neg h2]
          exact ⟨1, m1, rfl⟩
      · rw [if_neg h1]
        by_cases h2 : (m : Int) > 1
        · rw [if_pos h2]
          exact ⟨m, Nat.le_refl _, rfl⟩
        · rw [if_neg h2]
          exact ⟨1, m1, rfl⟩
    obtain ⟨n, hn, en⟩ := hN
    rw [en]
    exact ⟨RgOk.of_le (by omega) (by omega) (by omega) (by omega), fun q nq => k q n nq hn⟩
end
end K00

set_option maxHeartbeats 4000000
namespace K00
open PySem PySem.Spec PyProof.Rows L2 Lp
def oddA : List PyData := [.none, .bool true, .bool false, .int 0, .int 1, .int (-1), .int (10 ^ Int.toNat 8), .str "", .str "a", .str "nobody", .str "ones", .tuple [], .list [], .dict [], .tuple [.tuple []], .tuple [.int 0], .tuple [.str ""], .list [.int 0]]
def oddB : List PyData := [.tuple [.str "a", .str "b"], .tuple [.str "a", .str "", .str "b"], .tuple [.tuple [.str "a", .str "b"]], .tuple [.str "sure"], .str "pairs"]
def spOdd : Sp := fun vs H Q _ => ∃ (p : Addr) (c : Nat), vs = [.ref p] ∧ PotAt H p c ∧ c < 99999 ∧ ∀ (H' : Hp) (v : V) (d : PyData), But p H H' → PotAt H' p (c + 1) → DX (Trk H) H' v d → d ∈ oddA ++ oddB → Q v H'
def taA : TA := tCons (tC .non) (tCons (tC (.bl true)) (tCons (tC (.bl false)) (tCons (tC (.int 0)) (tCons (tC (.int 1)) (tCons (tUn (rU fun z => .int (-z)) (tC (.int 1))) (tCons (tOp (rI CPow fun i j => .int (i ^ j.toNat)) (tC (.int 10)) (tC (.int 8))) (tCons (tC (.str "")) (tCons (tC (.str "a")) (tCons (tC (.str "nobody")) (tCons (tC (.str "ones"))
  (tCons (tTup tNil) (tCons (tLstN tNil) (tCons tDNewK (tCons (tTup (tCons (tTup tNil) tNil)) (tCons (tTup (tCons (tC (.int 0)) tNil)) (tCons (tTup (tCons (tC (.str "")) tNil)) (tCons (tLstN (tCons (tC (.int 0)) tNil)) tNil)))))))))))))))))
def taB : TA := tCons (tTup (tCons (tC (.str "a")) (tCons (tC (.str "b")) tNil))) (tCons (tTup (tCons (tC (.str "a")) (tCons (tC (.str "")) (tCons (tC (.str "b")) tNil)))) (tCons (tTup (tCons (tTup (tCons (tC (.str "a")) (tCons (tC (.str "b")) tNil))) tNil)) (tCons (tTup (tCons (tC (.str "sure")) tNil)) (tCons (tC (.str "pairs")) tNil))))
theorem few1 {d : PyData} : ([d] : List PyData).length ≤ 1000 := by show 1 ≤ 1000; decide
theorem few2 {d e : PyData} : ([d, e] : List PyData).length ≤ 1000 := by show 2 ≤ 1000; decide
theorem few3 {d e f : PyData} : ([d, e, f] : List PyData).length ≤ 1000 := by show 3 ≤ 1000; decide
theorem few0 : ([] : List PyData).length ≤ 1000 := by show 0 ≤ 1000; decide
theorem datsA : Dats taA oddA := by
  unfold taA oddA
  refine Dats.cons .non ?_
  refine Dats.cons (.bl _) ?_
  refine Dats.cons (.bl _) ?_
  refine Dats.cons (.int _) ?_
  refine Dats.cons (.int _) ?_
  refine Dats.cons (.neg _) ?_
  refine Dats.cons (.pow _ _ ⟨by decide, by decide, by decide⟩) ?_
  refine Dats.cons (.str _) ?_
  refine Dats.cons (.str _) ?_
  refine Dats.cons (.str _) ?_
  refine Dats.cons (.str _) ?_
  refine Dats.cons (.tup .nil few0) ?_
  refine Dats.cons (.lst .nil few0) ?_
  refine Dats.cons .nodict ?_
  refine Dats.cons (.tup (.cons (.tup .nil few0) .nil) few1) ?_
  refine Dats.cons (.tup (.cons (.int _) .nil) few1) ?_
  refine Dats.cons (.tup (.cons (.str _) .nil) few1) ?_
  refine Dats.cons (.lst (.cons (.int _) .nil) few1) ?_
  exact .nil
theorem datsB : Dats taB oddB := by
  unfold taB oddB
  refine Dats.cons (.tup (.cons (.str _) (.cons (.str _) .nil)) few2) ?_
  refine Dats.cons (.tup (.cons (.str _) (.cons (.str _) (.cons (.str _) .nil))) few3) ?_
  refine Dats.cons (.tup (.cons (.tup (.cons (.str _) (.cons (.str _) .nil)) few2) .nil) few1) ?_
  refine Dats.cons (.tup (.cons (.str _) .nil) few1) ?_
  refine Dats.cons (.str _) ?_
  exact .nil
def rCt : R2 := fun x y H Q => ∃ l b xs zs, x = .ref l ∧ y = .ref b ∧ H l = some (.lst xs) ∧ H b = some (.lst zs) ∧ xs.length + zs.length ≤ sizeLine ∧ ∀ p, H p = none → Q (.ref p) (upd H p (.lst (xs ++ zs)))
section
variable {P : Program} {w : World} {K : PySem.W.Frag} {mg : Str → Option Value} {base : Heap} {fTake fOf : Addr}
theorem scOdd : FnScope ["_law_pot_here", "_law_some"] ["_law_pot_here"] (defScope sOdd) := ⟨rfl, rfl, rfl, by decide +kernel, rfl, by decide +kernel, by decide +kernel⟩
theorem ok_odd {f : Addr} {fd fdO : FuncData} (F : Fun K "_law_odd" "_law_odd" sOdd f fd) (T : TxtM K mg fTake fOf) (GO : FnOk P w K mg base CX0 2 fOf fdO ["_law_pot_here", "_law_some"] spOf) (bO : Binds K fdO ["_law_pot_here", "_law_some"] []) :
    FnOk P w K mg base CX0 3 f fd ["_law_pot_here"] spOdd := by
  refine F.ok scOdd (fun vs H Q E h => ?_) (fun cdv A outer s H vs Q E hr h => ?_)
  · obtain ⟨p, c, rfl, _⟩ := h
    rfl
  · obtain ⟨p, c, rfl, hp, hc, k⟩ := h
    refine ⟨tSeq (tAsg (tLst taA) (gName 1)) (tRet (tCall spOf [] E0 (tCons (tVar 0) (tCons (tOp rCt (tVar 1) (tLst taB)) tNil)))), pss_cons (ps_set (i := 1) scOdd.nd rfl (Or.inl rfl) (pe_lst (pa_c pe_non (pa_c pe_bl (pa_c pe_bl (pa_c pe_int (pa_c pe_int (pa_u (pe_un un_neg pe_int) (pa_b (pe_op op_pow pe_int pe_int) (pa_c pe_str (pa_c pe_str (pa_c pe_str (pa_c pe_str (pa_t (pe_tup pa_nil) (pa_l (pe_lstN pa_nil) (pa_d pe_dnewK
        (pa_t (pe_tup (pa_t (pe_tup pa_nil) pa_nil)) (pa_t (pe_tup (pa_c pe_int pa_nil)) (pa_t (pe_tup (pa_c pe_str pa_nil)) (pa_l (pe_lstN (pa_c pe_int pa_nil)) pa_nil))))))))))))))))))))
      (pss_one (ps_ret (pe_call GO hr rfl T.gOf T.kOf bO .nil pass0 (pa_n (pv 0) (pa_b (pe_op op_cat (pv 1) (pe_lst (pa_t (pe_tup (pa_c pe_str (pa_c pe_str pa_nil))) (pa_t (pe_tup (pa_c pe_str (pa_c pe_str (pa_c pe_str pa_nil)))) (pa_t (pe_tup (pa_t (pe_tup (pa_c pe_str (pa_c pe_str pa_nil))) pa_nil)) (pa_t (pe_tup (pa_c pe_str pa_nil)) (pa_c pe_str pa_nil))))))) pa_nil))))), ?_⟩
    have h0 := hp.there
    unfold tSeq tAsg tLst
    refine datsA _ _ _ fun vs1 H1 s1 d1 => ⟨?_, fun a na => ?_⟩
    · rw [d1.1]
      show 18 ≤ sizeLine
      decide
    have s2 := s1.new' na (o := .lst vs1)
    have h2 := s2.thereP h0
    unfold tRet tCall
    refine ⟨_, rfl, _, rfl, ?_⟩
    refine datsB _ _ _ fun vs2 H3 s3 d3 => ⟨?_, fun b nb => ?_⟩
    · rw [d3.1]
      show 5 ≤ sizeLine
      decide
    have s4 := s3.new' nb (o := .lst vs2)
    have s5 := s2.trans' s4
    have ha := s4 a _ upd_same
    refine ⟨a, b, vs1, vs2, rfl, rfl, ha, upd_same, ?_, fun q nq => ?_⟩
    · rw [d1.1, d3.1]
      show 18 + 5 ≤ sizeLine
      decide
    have s6 := s5.new' nq (o := .lst (vs1 ++ vs2))
    have l1 : vs1.length = 18 := d1.1
    have l2 : vs2.length = 5 := d3.1
    refine ⟨p, q, vs1 ++ vs2, c, rfl, hp.keep s6, hc, upd_same, new_ne (s5.thereP h0) nq, ?_, ?_, fun H' v i hv bt pt => ?_⟩
    · intro z
      have y := congrArg List.length z
      rw [List.length_append, l1, l2] at y
      cases y
    · rw [List.length_append, l1, l2]
      decide
    have e1 : DXs (Trk H) H' (vs1 ++ vs2) (oddA ++ oddB) := DXs.append (d1.keep ((((Out.refl.new na).trans s4.out).new nq).trans (bt.out h0)))
      ((d3.mono fun q h => s2.thereP h).keep (((Out.refl.new nb).new nq).trans (bt.out h0)))
    obtain ⟨d, hd, hx⟩ := e1.at hv
    exact k H' v d (s6.butP.trans bt) pt hx hd
end
end K00

set_option maxHeartbeats 4000000
namespace K00
open PySem PySem.Spec PyProof.Rows L2 Lp
abbrev sInit : Stmt := inClass (top 1) 0
abbrev sAll : Stmt := top 37
abbrev sKinds : Stmt := top 38
/-- the classes of errors: C 0 to C 28, the base at CP; __init__ at fI -/
structure TxtE (K : PySem.W.Frag) (mg : Str → Option Value) (C : Nat → Addr) (CP fI : Addr) (fdI : FuncData) : Prop where
  isinst : mg "isinstance" = none
  E : ∀ j, ErrF K (C j) fI
  EP : ErrF K CP fI
  gP : mg "PairError" = some (.ref CP)
  tI : PySem.W.typeIn K (.ref fI) = some (.type "function")
  bI : Binds K fdI ["self", "value"] []
  inj : ∀ i j, i < 29 → j < 29 → C i = C j → i = j
  kit : ∀ i j, PySem.W.kitOne K (.ref (C i)) (.ref (C j)) = some (decide (C j = C i))
  kitP : ∀ i, PySem.W.kitOne K (.ref (C i)) (.ref CP) = some true
  kitV : ∀ i, PySem.W.kitOne K (.ref (C i)) (.type "ValueError") = some true
  kitB : ∀ j, PySem.W.kitOne K (.ref CP) (.ref (C j)) = some false
  g00 : mg "BadBook" = some (.ref (C 0))
  g01 : mg "NoPerson" = some (.ref (C 1))
  g02 : mg "BadChoice" = some (.ref (C 2))
  g03 : mg "BadRow" = some (.ref (C 3))
  g04 : mg "Round" = some (.ref (C 4))
  g05 : mg "Full" = some (.ref (C 5))
  g06 : mg "NoSaying" = some (.ref (C 6))
  g07 : mg "OtherPeople" = some (.ref (C 7))
  g08 : mg "BadLists" = some (.ref (C 8))
  g09 : mg "BadPairs" = some (.ref (C 9))
  g10 : mg "NoList" = some (.ref (C 10))
  g11 : mg "OtherBook" = some (.ref (C 11))
  g12 : mg "NotSure" = some (.ref (C 12))
  g13 : mg "BadBound" = some (.ref (C 13))
  g14 : mg "BadBarred" = some (.ref (C 14))
  g15 : mg "BadSide" = some (.ref (C 15))
  g16 : mg "NoneSure" = some (.ref (C 16))
  g17 : mg "TooMany" = some (.ref (C 17))
  g18 : mg "TooManyOpen" = some (.ref (C 18))
  g19 : mg "BadOffers" = some (.ref (C 19))
  g20 : mg "BadHopes" = some (.ref (C 20))
  g21 : mg "BadPair" = some (.ref (C 21))
  g22 : mg "Taken" = some (.ref (C 22))
  g23 : mg "NotTogether" = some (.ref (C 23))
  g24 : mg "NothingToUndo" = some (.ref (C 24))
  g25 : mg "NothingToRedo" = some (.ref (C 25))
  g26 : mg "NoTrial" = some (.ref (C 26))
  g27 : mg "BadJournal" = some (.ref (C 27))
  g28 : mg "BadLine" = some (.ref (C 28))
/-- an error of each class with v -/
def spAll (C : Nat → Addr) : Sp := fun vs H Q _ => ∃ v : V, vs = [v] ∧ ∀ (H' : Hp) (p : Addr) (as : List Addr), Same H H' → H' p = some (.lst (as.map V.ref)) → Errs C v H' as (List.range 29) → Q (.ref p) H'
/-- for each class whether the error at a is one -/
def spKinds (K : PySem.W.Frag) (C : Nat → Addr) : Sp := fun vs H Q _ => ∃ (a D : Addr) (fs : List (Str × V)) (g : Nat → Bool), vs = [.ref a] ∧ ErrAt H a D fs ∧ ExcC K D ∧ (∀ j, PySem.W.kitOne K (.ref D) (.ref (C j)) = some (g j)) ∧
  ∀ (H' : Hp) (p : Addr), Same H H' → H' p = some (.lst ((List.range 29).map fun j => V.bl (g j))) → Q (.ref p) H'
section
variable {P : Program} {w : World} {K : PySem.W.Frag} {mg : Str → Option Value} {base : Heap} {C : Nat → Addr} {CP fI : Addr} {fdI : FuncData}
theorem scInit : FnScope ["self", "value"] ["self", "value"] (defScope sInit) := ⟨rfl, rfl, rfl, by decide +kernel, rfl, by decide +kernel, by decide +kernel⟩
theorem ok_init {f : Addr} {fd : FuncData} (F : Fun K "__init__" "PairError.__init__" sInit f fd) : FnOk P w K mg base CX0 1 f fd ["self", "value"] (spInit K) := by
  refine F.ok scInit (fun vs H Q E h => ?_) (fun cdv A outer s H vs Q E hr h => ?_)
  · obtain ⟨a, D, v, rfl, _⟩ := h
    rfl
  · obtain ⟨a, D, v, rfl, ox, no, ha, k⟩ := h
    refine ⟨_, pss_one (ps_ost (pv 0) (pv 1)), ?_⟩
    exact ⟨_, rfl, _, rfl, a, D, rfl, ox, no, .inl ⟨ha, fun d nd ne => k d nd ne⟩⟩
theorem scAll : FnScope ["_law_one", "_law_found"] ["_law_one"] (defScope sAll) := ⟨rfl, rfl, rfl, by decide +kernel, rfl, by decide +kernel, by decide +kernel⟩
theorem ok_all {f : Addr} {fd : FuncData} (F : Fun K "_law_all_of" "_law_all_of" sAll f fd) (T : TxtE K mg C CP fI fdI) (GI : FnOk P w K mg base CX0 1 fI fdI ["self", "value"] (spInit K)) : FnOk P w K mg base CX0 3 f fd ["_law_one"] (spAll C) := by
  refine F.ok scAll (fun vs H Q E h => ?_) (fun cdv A outer s H vs Q E hr h => ?_)
  · obtain ⟨v, rfl, _⟩ := h
    rfl
  · obtain ⟨v, rfl, k⟩ := h
    refine ⟨(tSeq (tAsg (tLst (tMk K C [0, 1, 2, 3, 4, 5, 6])) (gName 1)) (tSeq (tDrop (tBM K "list" rExtend (tVar 1) (tCons (tLst (tMk K C [7, 8, 9, 10, 11, 12])) tNil))) (tSeq (tDrop (tBM K "list" rExtend (tVar 1) (tCons (tLst (tMk K C [13, 14, 15, 16, 17, 18])) tNil))) (tSeq (tDrop (tBM K "list" rExtend (tVar 1) (tCons (tLst (tMk K C [19, 20, 21, 22, 23, 24])) tNil))) (tSeq (tDrop (tBM K "list" rExtend (tVar 1) (tCons (tLst (tMk K C [25, 26, 27, 28])) tNil))) (tRet (tVar 1))))))),
      (pss_cons (ps_set (i := 1) scAll.nd rfl (Or.inl rfl) (pe_lst (pa_f (pe_err (T.E 0).c T.tI GI hr (T.bI) pass0 (by rfl) T.g00 (pa_n (pv 0) pa_nil)) (pa_f (pe_err (T.E 1).c T.tI GI hr (T.bI) pass0 (by rfl) T.g01 (pa_n (pv 0) pa_nil)) (pa_f (pe_err (T.E 2).c T.tI GI hr (T.bI) pass0 (by rfl) T.g02 (pa_n (pv 0) pa_nil)) (pa_f (pe_err (T.E 3).c T.tI GI hr (T.bI) pass0 (by rfl) T.g03 (pa_n (pv 0) pa_nil)) (pa_f (pe_err (T.E 4).c T.tI GI hr (T.bI) pass0 (by rfl) T.g04 (pa_n (pv 0) pa_nil)) (pa_f (pe_err (T.E 5).c T.tI GI hr (T.bI) pass0 (by rfl) T.g05 (pa_n (pv 0) pa_nil)) (pa_f (pe_err (T.E 6).c T.tI GI hr (T.bI) pass0 (by rfl) T.g06 (pa_n (pv 0) pa_nil)) pa_nil)))))))))
      (pss_cons (ps_expr (pe_bm PySem.F.plainAttrs_list PySem.F.slot_list_extend PySem.F.type_list_extend mt_extend (pv 1) (pa_l (pe_lst (pa_f (pe_err (T.E 7).c T.tI GI hr (T.bI) pass0 (by rfl) T.g07 (pa_n (pv 0) pa_nil)) (pa_f (pe_err (T.E 8).c T.tI GI hr (T.bI) pass0 (by rfl) T.g08 (pa_n (pv 0) pa_nil)) (pa_f (pe_err (T.E 9).c T.tI GI hr (T.bI) pass0 (by rfl) T.g09 (pa_n (pv 0) pa_nil)) (pa_f (pe_err (T.E 10).c T.tI GI hr (T.bI) pass0 (by rfl) T.g10 (pa_n (pv 0) pa_nil)) (pa_f (pe_err (T.E 11).c T.tI GI hr (T.bI) pass0 (by rfl) T.g11 (pa_n (pv 0) pa_nil)) (pa_f (pe_err (T.E 12).c T.tI GI hr (T.bI) pass0 (by rfl) T.g12 (pa_n (pv 0) pa_nil)) pa_nil))))))) pa_nil)))
      (pss_cons (ps_expr (pe_bm PySem.F.plainAttrs_list PySem.F.slot_list_extend PySem.F.type_list_extend mt_extend (pv 1) (pa_l (pe_lst (pa_f (pe_err (T.E 13).c T.tI GI hr (T.bI) pass0 (by rfl) T.g13 (pa_n (pv 0) pa_nil)) (pa_f (pe_err (T.E 14).c T.tI GI hr (T.bI) pass0 (by rfl) T.g14 (pa_n (pv 0) pa_nil)) (pa_f (pe_err (T.E 15).c T.tI GI hr (T.bI) pass0 (by rfl) T.g15 (pa_n (pv 0) pa_nil)) (pa_f (pe_err (T.E 16).c T.tI GI hr (T.bI) pass0 (by rfl) T.g16 (pa_n (pv 0) pa_nil)) (pa_f (pe_err (T.E 17).c T.tI GI hr (T.bI) pass0 (by rfl) T.g17 (pa_n (pv 0) pa_nil)) (pa_f (pe_err (T.E 18).c T.tI GI hr (T.bI) pass0 (by rfl) T.g18 (pa_n (pv 0) pa_nil)) pa_nil))))))) pa_nil)))
      (pss_cons (ps_expr (pe_bm PySem.F.plainAttrs_list PySem.F.slot_list_extend PySem.F.type_list_extend mt_extend (pv 1) (pa_l (pe_lst (pa_f (pe_err (T.E 19).c T.tI GI hr (T.bI) pass0 (by rfl) T.g19 (pa_n (pv 0) pa_nil)) (pa_f (pe_err (T.E 20).c T.tI GI hr (T.bI) pass0 (by rfl) T.g20 (pa_n (pv 0) pa_nil)) (pa_f (pe_err (T.E 21).c T.tI GI hr (T.bI) pass0 (by rfl) T.g21 (pa_n (pv 0) pa_nil)) (pa_f (pe_err (T.E 22).c T.tI GI hr (T.bI) pass0 (by rfl) T.g22 (pa_n (pv 0) pa_nil)) (pa_f (pe_err (T.E 23).c T.tI GI hr (T.bI) pass0 (by rfl) T.g23 (pa_n (pv 0) pa_nil)) (pa_f (pe_err (T.E 24).c T.tI GI hr (T.bI) pass0 (by rfl) T.g24 (pa_n (pv 0) pa_nil)) pa_nil))))))) pa_nil)))
      (pss_cons (ps_expr (pe_bm PySem.F.plainAttrs_list PySem.F.slot_list_extend PySem.F.type_list_extend mt_extend (pv 1) (pa_l (pe_lst (pa_f (pe_err (T.E 25).c T.tI GI hr (T.bI) pass0 (by rfl) T.g25 (pa_n (pv 0) pa_nil)) (pa_f (pe_err (T.E 26).c T.tI GI hr (T.bI) pass0 (by rfl) T.g26 (pa_n (pv 0) pa_nil)) (pa_f (pe_err (T.E 27).c T.tI GI hr (T.bI) pass0 (by rfl) T.g27 (pa_n (pv 0) pa_nil)) (pa_f (pe_err (T.E 28).c T.tI GI hr (T.bI) pass0 (by rfl) T.g28 (pa_n (pv 0) pa_nil)) pa_nil))))) pa_nil)))
      (pss_one (ps_ret (pv 1)))))))), ?_⟩
    refine seq_set (lst_of (mk_all T.E [0, 1, 2, 3, 4, 5, 6] _ _ _ (v := v) rfl fun as0 H1 s1 t0 => ?_))
    refine ⟨by rw [List.length_map, t0.1]; show 7 ≤ sizeLine; decide, fun l nl => ?_⟩
    have l0 : H l = none := by
      cases e : H l with
      | none => rfl
      | some u => rw [s1 _ _ e] at nl; cases nl
    have b0 : But l H (upd H1 l (.lst (as0.map V.ref))) := (s1.new' nl).butP
    have t0' : Errs C v (upd H1 l (.lst (as0.map V.ref))) as0 [0, 1, 2, 3, 4, 5, 6] := t0.map fun a D q => q.keep (Same.new' Same.refl' nl)
    refine seq_drop (ext_made T.E (l := l) (v := v) rfl rfl upd_same t0' (by decide) fun J1 bs1 c1 h1 t1 => ?_)
    refine seq_drop (ext_made T.E (l := l) (v := v) rfl rfl h1 t1 (by decide) fun J2 bs2 c2 h2 t2 => ?_)
    refine seq_drop (ext_made T.E (l := l) (v := v) rfl rfl h2 t2 (by decide) fun J3 bs3 c3 h3 t3 => ?_)
    refine seq_drop (ext_made T.E (l := l) (v := v) rfl rfl h3 t3 (by decide) fun J4 bs4 c4 h4 t4 => ?_)
    refine ret_of ⟨_, rfl, k _ l _ (But.same ((((b0.trans c1).trans c2).trans c3).trans c4) l0) h4 ?_⟩
    exact t4
theorem scKinds : FnScope ["_law_error", "_law_found"] ["_law_error"] (defScope sKinds) := ⟨rfl, rfl, rfl, by decide +kernel, rfl, by decide +kernel, by decide +kernel⟩
theorem ok_kinds {f : Addr} {fd : FuncData} (F : Fun K "_law_kinds_of" "_law_kinds_of" sKinds f fd) (T : TxtE K mg C CP fI fdI) : FnOk P w K mg base CX0 1 f fd ["_law_error"] (spKinds K C) := by
  refine F.ok scKinds (fun vs H Q E h => ?_) (fun cdv A outer s H vs Q E hr h => ?_)
  · obtain ⟨a, D, fs, g, rfl, _⟩ := h
    rfl
  · obtain ⟨a, D, fs, g, rfl, he, xc, hg, k⟩ := h
    refine ⟨(tSeq (tAsg (tLst (tIs K C [0, 1, 2])) (gName 1)) (tSeq (tDrop (tBM K "list" rExtend (tVar 1) (tCons (tLst (tIs K C [3, 4, 5])) tNil))) (tSeq (tDrop (tBM K "list" rExtend (tVar 1) (tCons (tLst (tIs K C [6, 7, 8])) tNil))) (tSeq (tDrop (tBM K "list" rExtend (tVar 1) (tCons (tLst (tIs K C [9, 10, 11])) tNil))) (tSeq (tDrop (tBM K "list" rExtend (tVar 1) (tCons (tLst (tIs K C [12, 13, 14])) tNil))) (tSeq (tDrop (tBM K "list" rExtend (tVar 1) (tCons (tLst (tIs K C [15, 16, 17])) tNil))) (tSeq (tDrop (tBM K "list" rExtend (tVar 1) (tCons (tLst (tIs K C [18, 19, 20])) tNil))) (tSeq (tDrop (tBM K "list" rExtend (tVar 1) (tCons (tLst (tIs K C [21, 22, 23])) tNil))) (tSeq (tDrop (tBM K "list" rExtend (tVar 1) (tCons (tLst (tIs K C [24, 25, 26])) tNil))) (tRet (tOp rCt (tVar 1) (tLst (tIs K C [27, 28]))))))))))))),
      (pss_cons (ps_set (i := 1) scKinds.nd rfl (Or.inl rfl) (pe_lst (pa_f (pe_callB call_isErr (by rfl) T.isinst boot_isinstance (pa_n (pv 0) (pa_n (pe_glob (by rfl) T.g00 rfl) pa_nil))) (pa_f (pe_callB call_isErr (by rfl) T.isinst boot_isinstance (pa_n (pv 0) (pa_n (pe_glob (by rfl) T.g01 rfl) pa_nil))) (pa_f (pe_callB call_isErr (by rfl) T.isinst boot_isinstance (pa_n (pv 0) (pa_n (pe_glob (by rfl) T.g02 rfl) pa_nil))) pa_nil)))))
      (pss_cons (ps_expr (pe_bm PySem.F.plainAttrs_list PySem.F.slot_list_extend PySem.F.type_list_extend mt_extend (pv 1) (pa_l (pe_lst (pa_f (pe_callB call_isErr (by rfl) T.isinst boot_isinstance (pa_n (pv 0) (pa_n (pe_glob (by rfl) T.g03 rfl) pa_nil))) (pa_f (pe_callB call_isErr (by rfl) T.isinst boot_isinstance (pa_n (pv 0) (pa_n (pe_glob (by rfl) T.g04 rfl) pa_nil))) (pa_f (pe_callB call_isErr (by rfl) T.isinst boot_isinstance (pa_n (pv 0) (pa_n (pe_glob (by rfl) T.g05 rfl) pa_nil))) pa_nil)))) pa_nil)))
      (pss_cons (ps_expr (pe_bm PySem.F.plainAttrs_list PySem.F.slot_list_extend PySem.F.type_list_extend mt_extend (pv 1) (pa_l (pe_lst (pa_f (pe_callB call_isErr (by rfl) T.isinst boot_isinstance (pa_n (pv 0) (pa_n (pe_glob (by rfl) T.g06 rfl) pa_nil))) (pa_f (pe_callB call_isErr (by rfl) T.isinst boot_isinstance (pa_n (pv 0) (pa_n (pe_glob (by rfl) T.g07 rfl) pa_nil))) (pa_f (pe_callB call_isErr (by rfl) T.isinst boot_isinstance (pa_n (pv 0) (pa_n (pe_glob (by rfl) T.g08 rfl) pa_nil))) pa_nil)))) pa_nil)))
      (pss_cons (ps_expr (pe_bm PySem.F.plainAttrs_list PySem.F.slot_list_extend PySem.F.type_list_extend mt_extend (pv 1) (pa_l (pe_lst (pa_f (pe_callB call_isErr (by rfl) T.isinst boot_isinstance (pa_n (pv 0) (pa_n (pe_glob (by rfl) T.g09 rfl) pa_nil))) (pa_f (pe_callB call_isErr (by rfl) T.isinst boot_isinstance (pa_n (pv 0) (pa_n (pe_glob (by rfl) T.g10 rfl) pa_nil))) (pa_f (pe_callB call_isErr (by rfl) T.isinst boot_isinstance (pa_n (pv 0) (pa_n (pe_glob (by rfl) T.g11 rfl) pa_nil))) pa_nil)))) pa_nil)))
      (pss_cons (ps_expr (pe_bm PySem.F.plainAttrs_list PySem.F.slot_list_extend PySem.F.type_list_extend mt_extend (pv 1) (pa_l (pe_lst (pa_f (pe_callB call_isErr (by rfl) T.isinst boot_isinstance (pa_n (pv 0) (pa_n (pe_glob (by rfl) T.g12 rfl) pa_nil))) (pa_f (pe_callB call_isErr (by rfl) T.isinst boot_isinstance (pa_n (pv 0) (pa_n (pe_glob (by rfl) T.g13 rfl) pa_nil))) (pa_f (pe_callB call_isErr (by rfl) T.isinst boot_isinstance (pa_n (pv 0) (pa_n (pe_glob (by rfl) T.g14 rfl) pa_nil))) pa_nil)))) pa_nil)))
      (pss_cons (ps_expr (pe_bm PySem.F.plainAttrs_list PySem.F.slot_list_extend PySem.F.type_list_extend mt_extend (pv 1) (pa_l (pe_lst (pa_f (pe_callB call_isErr (by rfl) T.isinst boot_isinstance (pa_n (pv 0) (pa_n (pe_glob (by rfl) T.g15 rfl) pa_nil))) (pa_f (pe_callB call_isErr (by rfl) T.isinst boot_isinstance (pa_n (pv 0) (pa_n (pe_glob (by rfl) T.g16 rfl) pa_nil))) (pa_f (pe_callB call_isErr (by rfl) T.isinst boot_isinstance (pa_n (pv 0) (pa_n (pe_glob (by rfl) T.g17 rfl) pa_nil))) pa_nil)))) pa_nil)))
      (pss_cons (ps_expr (pe_bm PySem.F.plainAttrs_list PySem.F.slot_list_extend PySem.F.type_list_extend mt_extend (pv 1) (pa_l (pe_lst (pa_f (pe_callB call_isErr (by rfl) T.isinst boot_isinstance (pa_n (pv 0) (pa_n (pe_glob (by rfl) T.g18 rfl) pa_nil))) (pa_f (pe_callB call_isErr (by rfl) T.isinst boot_isinstance (pa_n (pv 0) (pa_n (pe_glob (by rfl) T.g19 rfl) pa_nil))) (pa_f (pe_callB call_isErr (by rfl) T.isinst boot_isinstance (pa_n (pv 0) (pa_n (pe_glob (by rfl) T.g20 rfl) pa_nil))) pa_nil)))) pa_nil)))
      (pss_cons (ps_expr (pe_bm PySem.F.plainAttrs_list PySem.F.slot_list_extend PySem.F.type_list_extend mt_extend (pv 1) (pa_l (pe_lst (pa_f (pe_callB call_isErr (by rfl) T.isinst boot_isinstance (pa_n (pv 0) (pa_n (pe_glob (by rfl) T.g21 rfl) pa_nil))) (pa_f (pe_callB call_isErr (by rfl) T.isinst boot_isinstance (pa_n (pv 0) (pa_n (pe_glob (by rfl) T.g22 rfl) pa_nil))) (pa_f (pe_callB call_isErr (by rfl) T.isinst boot_isinstance (pa_n (pv 0) (pa_n (pe_glob (by rfl) T.g23 rfl) pa_nil))) pa_nil)))) pa_nil)))
      (pss_cons (ps_expr (pe_bm PySem.F.plainAttrs_list PySem.F.slot_list_extend PySem.F.type_list_extend mt_extend (pv 1) (pa_l (pe_lst (pa_f (pe_callB call_isErr (by rfl) T.isinst boot_isinstance (pa_n (pv 0) (pa_n (pe_glob (by rfl) T.g24 rfl) pa_nil))) (pa_f (pe_callB call_isErr (by rfl) T.isinst boot_isinstance (pa_n (pv 0) (pa_n (pe_glob (by rfl) T.g25 rfl) pa_nil))) (pa_f (pe_callB call_isErr (by rfl) T.isinst boot_isinstance (pa_n (pv 0) (pa_n (pe_glob (by rfl) T.g26 rfl) pa_nil))) pa_nil)))) pa_nil)))
      (pss_one (ps_ret (pe_op op_cat (pv 1) (pe_lst (pa_f (pe_callB call_isErr (by rfl) T.isinst boot_isinstance (pa_n (pv 0) (pa_n (pe_glob (by rfl) T.g27 rfl) pa_nil))) (pa_f (pe_callB call_isErr (by rfl) T.isinst boot_isinstance (pa_n (pv 0) (pa_n (pe_glob (by rfl) T.g28 rfl) pa_nil))) pa_nil))))))))))))))), ?_⟩
    refine seq_set (lst_of (is_all he xc hg [0, 1, 2] _ _ rfl ⟨by show 3 ≤ sizeLine; decide, fun l nl => ?_⟩))
    have b0 : But l H (upd H l (.lst ([0, 1, 2].map fun j => V.bl (g j)))) := (Same.new' Same.refl' nl).butP
    have e0 := he.keep (Same.new' Same.refl' nl (o := .lst ([0, 1, 2].map fun j => V.bl (g j))))
    refine seq_drop (ext_is e0 xc hg (l := l) rfl rfl upd_same (by decide) fun J1 c1 h1 e1 => ?_)
    refine seq_drop (ext_is e1 xc hg (l := l) rfl rfl h1 (by decide) fun J2 c2 h2 e2 => ?_)
    refine seq_drop (ext_is e2 xc hg (l := l) rfl rfl h2 (by decide) fun J3 c3 h3 e3 => ?_)
    refine seq_drop (ext_is e3 xc hg (l := l) rfl rfl h3 (by decide) fun J4 c4 h4 e4 => ?_)
    refine seq_drop (ext_is e4 xc hg (l := l) rfl rfl h4 (by decide) fun J5 c5 h5 e5 => ?_)
    refine seq_drop (ext_is e5 xc hg (l := l) rfl rfl h5 (by decide) fun J6 c6 h6 e6 => ?_)
    refine seq_drop (ext_is e6 xc hg (l := l) rfl rfl h6 (by decide) fun J7 c7 h7 e7 => ?_)
    refine seq_drop (ext_is e7 xc hg (l := l) rfl rfl h7 (by decide) fun J8 c8 h8 e8 => ?_)
    refine ret_of (op_of (var_of rfl (lst_of (is_all e8 xc hg [27, 28] _ _ rfl ⟨by show 2 ≤ sizeLine; decide, fun b nb => ?_⟩))))
    have s9 : Same J8 (upd J8 b (.lst ([27, 28].map fun j => V.bl (g j)))) := Same.new' Same.refl' nb
    refine ⟨l, b, _, _, rfl, rfl, s9 _ _ h8, upd_same, by show 27 + 2 ≤ sizeLine; decide, fun q nq => ?_⟩
    have s10 := s9.new' nq (o := .lst ((List.range 29).map fun j => V.bl (g j)))
    exact k _ q (But.same (((((((((b0.trans c1).trans c2).trans c3).trans c4).trans c5).trans c6).trans c7).trans c8).trans s10.butP) nl) upd_same
end
end K00

set_option maxHeartbeats 1000000
namespace K00
open PySem PySem.Spec PyProof.Rows L2 Lp
abbrev sRight : Stmt := top 39
abbrev sLaw : Stmt := top 40
def rightN : List Str := ["_law_pot_here", "_law_some", "_law_one", "_law_errors", "_law_error", "_law_at", "_law_k"]
structure TxtR (K : PySem.W.Frag) (mg : Str → Option Value) (fOdd fAll fKinds : Addr) : Prop where
  len : mg "len" = none
  all : mg "all" = none
  any : mg "any" = none
  repr : mg "repr" = none
  enum : mg "enumerate" = none
  range : mg "range" = none
  valErr : mg "ValueError" = none
  gOdd : mg "_law_odd" = some (.ref fOdd)
  kOdd : PySem.W.keepIn K (.ref fOdd) = true
  gAll : mg "_law_all_of" = some (.ref fAll)
  kAll : PySem.W.keepIn K (.ref fAll) = true
  gKinds : mg "_law_kinds_of" = some (.ref fKinds)
  kKinds : PySem.W.keepIn K (.ref fKinds) = true
def spRight : Sp := fun vs H Q _ => ∃ (p : Addr) (c : Nat), vs = [.ref p] ∧ PotAt H p c ∧ c < 99000 ∧ ∀ H', But p H H' → Q (.bl true) H'
def Fine (d : PyData) : Prop := d.showable = true ∧ d.shown.length ≤ 1000 ∧ d.depth ≤ 20
instance (d : PyData) : Decidable (Fine d) := by unfold Fine; infer_instance
theorem fine1 : ∀ d ∈ oddA ++ oddB, Fine d := by decide +kernel
theorem fine2 : ∀ d ∈ oddA ++ oddB, ∀ e ∈ oddA ++ oddB, Fine (.tuple [d, .list [e]]) := by decide +kernel
theorem fine3 : ∀ d ∈ oddA ++ oddB, Fine (.dict [(.str "a", d)]) := by decide +kernel
end K00

set_option maxHeartbeats 1000000
namespace K00
open PySem PySem.Spec PyProof.Rows L2 Lp
theorem disp_of {trs : List (TE × TE)} {σ : L2.St} {H : Hp} {Q : VK} (h : ∀ p, H p = none → tPairs trs σ (upd H p (.dK [])) fun ps H2 => H2 p = some (.dK []) ∧ ∃ kvs : List (Key × V), ps = kvs.map (fun kv => (kV kv.1, kv.2)) ∧ kvs.length ≤ 15 ∧ Q (.ref p) (upd H2 p (.dK (mergeK [] kvs)))) : tDisp trs σ H Q := h
theorem pair1_of {x : Str} {te : TE} {σ : L2.St} {H : Hp} {Q : List (V × V) → Hp → Prop} (h : te σ H fun y H1 => Q [(.str x, y)] H1) : tPairs [(tC (.str x), te)] σ H Q := h
/-- the three things that are drawn stand as data in a list at a, behind which the pot is not touched -/
structure Drawn3 (a : Addr) (H : Hp) (vs : List V) (ds : List PyData) : Prop where
  at_ : H a = some (.lst vs)
  xs : DXs (fun _ => False) H vs ds
  ok : ∀ d ∈ ds, Fine d
  len : ds.length = 3
theorem kinds_shaped : ∀ j : Nat, j < 29 → SeqAt.shaped (.list (((List.range 29).map fun m => decide (m = j)).map PyData.bool)) = true := by decide +kernel
theorem kinds_eqv : ∀ j : Nat, j < 29 → PyData.eqv (.list (((List.range 29).map fun m => decide (m = j)).map PyData.bool)) (.list (((List.range 29).map fun m => decide (m = j)).map PyData.bool)) = true := by decide +kernel
def teRight (K : PySem.W.Frag) : TE := tAndV (tOp rEq (tCB rReprD (tCons (tEf K "value" (tVar 4)) tNil)) (tCB rReprD (tCons (tVar 2) tNil))) (tCB (rIsErr K) (tCons (tVar 4) (tCons (tC (.ty "ValueError")) tNil)))
section
variable {P : Program} {w : World} {K : PySem.W.Frag} {mg : Str → Option Value} {base : Heap} {C : Nat → Addr} {CP fI fOdd fAll fKinds : Addr} {fdI fdO fdA fdK : FuncData}
theorem scRight : FnScope rightN ["_law_pot_here"] (defScope sRight) := ⟨rfl, rfl, rfl, by decide +kernel, rfl, by decide +kernel, by decide +kernel⟩
theorem ok_right {f : Addr} {fd : FuncData} (F : Fun K "_law_right" "_law_right" sRight f fd) (T : TxtR K mg fOdd fAll fKinds) (TE : TxtE K mg C CP fI fdI) (GI : FnOk P w K mg base CX0 1 fI fdI ["self", "value"] (spInit K))
    (GO : FnOk P w K mg base CX0 3 fOdd fdO ["_law_pot_here"] spOdd) (bO : Binds K fdO ["_law_pot_here"] []) (GA : FnOk P w K mg base CX0 3 fAll fdA ["_law_one"] (spAll C)) (bA : Binds K fdA ["_law_one"] [])
    (GK : FnOk P w K mg base CX0 1 fKinds fdK ["_law_error"] (spKinds K C)) (bK : Binds K fdK ["_law_error"] []) : FnG P w K mg base CX0 4 f fd ["_law_pot_here"] spRight := by
  refine okG F scRight (fun vs H Q E h => ?_) (fun cdv A outer s H vs Q E hG hr h => ?_)
  · obtain ⟨p, c, rfl, _⟩ := h
    rfl
  · obtain ⟨p, c, rfl, hp, hc, k⟩ := h
    have hr1 : Room 1 _ := hr.mono (by decide)
    have hr2 : Room 2 _ := hr.mono (by decide)
    refine ⟨_, pss_cons (ps_set (i := 1) scRight.nd rfl (Or.inl rfl) (pe_lstN (pa_f (pe_call GO hr rfl T.gOdd T.kOdd bO .nil pass0 (pa_n (pv 0) pa_nil)) (pa_t (pe_tup (pa_f (pe_call GO hr rfl T.gOdd T.kOdd bO .nil pass0 (pa_n (pv 0) pa_nil)) (pa_l (pe_lstN (pa_f (pe_call GO hr rfl T.gOdd T.kOdd bO .nil pass0 (pa_n (pv 0) pa_nil)) pa_nil)) pa_nil)))
        (pa_d (pe_disp (pps_cons pe_str (pe_call GO hr rfl T.gOdd T.kOdd bO .nil pass0 (pa_n (pv 0) pa_nil)) pps_nil) rfl rfl (by simp) (by decide)) pa_nil)))))
      (pss_cons (ps_for PassesOwn.never rfl (pi_list (pv 1)) (pg_name (i := 2) scRight.nd rfl (Or.inr rfl))
        (pss_cons (ps_set (i := 3) scRight.nd rfl (Or.inl rfl) (pe_call GA hr rfl T.gAll T.kAll bA .nil pass0 (pa_n (pv 2) pa_nil)))
        (pss_cons (ps_if (pt_not (pt_val (pe_callB (cr_all rfl) (by rfl) T.all (by decide +kernel) (pa_lc (pe_lc (own := [("_law_error", 4)]) (g := gName 4) (tt := tYes) (te := teRight K) rfl scRight.nd (pi_list (pv 3)) (blkOk_by (N := rightN) (sc := defScope sRight) (by decide +kernel)) (fun _ _ _ _ _ => pg_name (i := 4) scRight.nd rfl (Or.inl rfl)) (fun _ _ _ _ _ => pts_nil)
            (fun _ _ _ _ _ => pe_and (pe_cmpR op_eq (pe_callB (call_repr (by exact hG) (by exact hr1)) (by rfl) T.repr (by decide +kernel) (pa_a (pe_efld (pv 4)) pa_nil)) (pe_callB (call_repr (by exact hG) (by exact hr1)) (by rfl) T.repr (by decide +kernel) (pa_n (pv 2) pa_nil)) (nomark _))
              (pe_one (pe_callB call_isErr (by rfl) TE.isinst boot_isinstance (pa_n (pv 4) (pa_n (pe_bltn (v := .ty "ValueError") (by rfl) T.valErr boot_ValueError rfl) pa_nil)))))) pa_nil)))) (pss_one (ps_ret pe_bl)) pss_nil)
        (pss_one (ps_for PassesOwn.never rfl (pi_enum (by rfl) T.enum (pa_n (pv 3) pa_nil)) (pg_tup (by rfl) (pgs_cons (pg_name (i := 5) scRight.nd rfl (Or.inr rfl)) (pgs_cons (pg_name (i := 4) scRight.nd rfl (Or.inl rfl)) pgs_nil)))
          (pss_one (ps_if (PW.pt (pw_or (pt_cmpR (op_neD hr.units) (pe_call GK hr1 rfl T.gKinds T.kKinds bK .nil pass0 (pa_n (pv 4) pa_nil))
              (pe_lc (own := [("_law_k", 6)]) (g := gName 6) (tt := tYes) (te := tOp rEq (tVar 6) (tVar 5)) rfl scRight.nd (pi_range1 (by rfl) T.range (pa_f (pe_callB call_len_seq (by rfl) T.len PySem.boot_len (pa_n (pv 3) pa_nil)) pa_nil)) (blkOk_by (N := rightN) (sc := defScope sRight) (by decide +kernel)) (fun _ _ _ _ _ => pg_name (i := 6) scRight.nd rfl (Or.inl rfl)) (fun _ _ _ _ _ => pts_nil)
                (fun _ _ _ _ _ => pe_cmpR op_eq (pv 6) (pv 5) (nomark _))) (nomark _))
            (pw_or1 (pt_not (pt_val (pe_callB call_isErr (by rfl) TE.isinst boot_isinstance (pa_n (pv 4) (pa_n (pe_glob (v := .ref CP) (by rfl) TE.gP rfl) pa_nil)))))))) (pss_one (ps_ret pe_bl)) pss_nil)))))))
      (pss_one (ps_ret (pe_and (pe_cmpR op_eq (pe_callB (call_repr (by exact hG) (by exact hr1)) (by rfl) T.repr (by decide +kernel) (pa_a (pe_efld (pe_err TE.EP.c TE.tI GI hr2 TE.bI pass0 (by rfl) TE.gP (pa_s (pe_ix ix_list (pv 1) pe_int (fun _ _ => rfl)) pa_nil))) pa_nil))
          (pe_callB (call_repr (by exact hG) (by exact hr1)) (by rfl) T.repr (by decide +kernel) (pa_s (pe_ix ix_list (pv 1) pe_int (fun _ _ => rfl)) pa_nil)) (nomark _))
        (pe_one (pe_not (pe_callB (cr_any rfl) (by rfl) T.any (by decide +kernel) (pa_f (pe_call GK hr1 rfl T.gKinds T.kKinds bK .nil pass0 (pa_f (pe_err TE.EP.c TE.tI GI hr2 TE.bI pass0 (by rfl) TE.gP (pa_c pe_int pa_nil)) pa_nil)) pa_nil)))))))), ?_⟩
    refine seq_set (lstN_of (cons_of (call_of (cons_of (var_of rfl (nil_of ?_))))))
    refine ⟨p, c, rfl, hp, by omega, fun H1 v1 d1 b1 q1 x1 m1 => ?_⟩
    refine cons_of (tup_of (cons_of (call_of (cons_of (var_of rfl (nil_of ⟨p, c + 1, rfl, q1, by omega, fun H2 v2 d2 b2 q2 x2 m2 => ?_⟩))))))
    refine cons_of (lstN_of (cons_of (call_of (cons_of (var_of rfl (nil_of ⟨p, c + 1 + 1, rfl, q2, by omega, fun H3 v3 d3 b3 q3 x3 m3 => ?_⟩))))))
    refine nil_of ⟨by show 1 ≤ sizeLine; decide, fun a3 n3 s3 => ?_⟩
    refine nil_of ⟨by show 2 ≤ sizeLine; decide, fun a2 n2 => ?_⟩
    have s33 : Same H3 (upd H3 a3 (.lst [v3])) := Same.new' Same.refl' n3
    have s32 := s33.new' n2 (o := .tup [v2, .ref a3])
    refine cons_of (disp_of fun a4 n4 => ?_)
    have s34 := s32.new' n4 (o := .dK [])
    have p3 : H3 p ≠ none := q3.there
    have na4 : a4 ≠ p := new_ne (s32.thereP p3) n4
    have na3 : a3 ≠ p := new_ne p3 n3
    have na2 : a2 ≠ p := new_ne (s33.thereP p3) n2
    refine pair1_of (call_of (cons_of (var_of rfl (nil_of ⟨p, c + 1 + 1 + 1, rfl, q3.keep s34, by omega, fun H4 v4 d4 b4 q4 x4 m4 => ?_⟩))))
    refine ⟨b4 _ _ na4 upd_same, [(Sum.inr "a", v4)], rfl, by show 1 ≤ 15; decide, ?_⟩
    refine nil_of ⟨by show 3 ≤ sizeLine; decide, fun a na sa => ?_⟩
    have b5 : But p (upd (upd H3 a3 (.lst [v3])) a2 (.tup [v2, .ref a3])) (upd H4 a4 (.dK (mergeK [] [(Sum.inr "a", v4)]))) := But.fresh b4 n4
    have n4a : a4 ≠ a := fun z => by
      rw [← z, upd_same] at na
      cases na
    have b6 := b5.new na (o := .lst [v1, .ref a2, .ref a4])
    have b7 : But p H (upd (upd H4 a4 (.dK (mergeK [] [(Sum.inr "a", v4)]))) a (.lst [v1, .ref a2, .ref a4])) := (((b1.trans b2).trans b3).trans s32.butP).trans b6
    have D : Drawn3 a (upd (upd H4 a4 (.dK (mergeK [] [(Sum.inr "a", v4)]))) a (.lst [v1, .ref a2, .ref a4])) [v1, .ref a2, .ref a4] [d1, .tuple [d2, .list [d3]], .dict [(.str "a", d4)]] := by
      have no : ∀ {S : Addr → Prop} (q : Addr), (fun _ => False : Addr → Prop) q → S q := fun q h => h.elim
      have e3 := b6 a3 _ na3 ((Same.new' Same.refl' n2 (o := .tup [v2, .ref a3])) a3 _ (upd_same (H := H3) (o := .lst [v3])))
      have e2 := b6 a2 _ na2 (upd_same (o := .tup [v2, .ref a3]))
      have e4 : upd (upd H4 a4 (.dK (mergeK [] [(Sum.inr "a", v4)]))) a (.lst [v1, .ref a2, .ref a4]) a4 = some (.dK [(Sum.inr "a", v4)]) := by
        rw [upd_ne n4a, upd_same]
        rfl
      have k1 : DX (fun _ => False) _ v1 d1 := (x1.keep ((((b2.trans b3).trans s32.butP).trans b6).out hp.there)).mono no
      have k2 : DX (fun _ => False) _ v2 d2 := (x2.keep (((b3.trans s32.butP).trans b6).out q1.there)).mono no
      have k3 : DX (fun _ => False) _ v3 d3 := (x3.keep ((s32.butP.trans b6).out q2.there)).mono no
      have t4 : Trk (upd (upd (upd H3 a3 (.lst [v3])) a2 (.tup [v2, .ref a3])) a4 (.dK [])) a4 := by
        intro z
        rw [upd_same] at z
        cases z
      have k4 : DX (fun _ => False) _ v4 d4 := (x4.keep ((Out.refl.put t4).new na (o := .lst [v1, .ref a2, .ref a4]))).mono no
      refine ⟨upd_same, .cons k1 (.cons ((DXs.cons k2 (.cons ((DXs.cons k3 .nil).lst e3 s3 id) .nil)).tup e2 id) (.cons (.dict e4 id rfl (fun i q d h h' => ?_) (fun i q d h h' => ?_)) .nil)), fun d hd => ?_, rfl⟩
      · cases i with
        | zero =>
          cases h
          cases h'
          rfl
        | succ i => simp at h
      · cases i with
        | zero =>
          cases h
          cases h'
          exact k4
        | succ i => simp at h
      · rcases List.mem_cons.mp hd with e | hd
        · rw [e]; exact fine1 _ m1
        rcases List.mem_cons.mp hd with e | hd
        · rw [e]; exact fine2 _ m2 _ m3
        rcases List.mem_cons.mp hd with e | hd
        · rw [e]; exact fine3 _ m4
        · cases hd
    generalize upd (upd H4 a4 (.dK (mergeK [] [(Sum.inr "a", v4)]))) a (.lst [v1, .ref a2, .ref a4]) = H5 at D b7
    generalize [v1, .ref a2, .ref a4] = vs at D
    generalize [d1, PyData.tuple [d2, .list [d3]], .dict [(.str "a", d4)]] = ds at D
    refine ⟨_, rfl, a, rfl, ⟨_, SqL.of D.at_⟩, for_list (K := K) (a := a) (xs := vs) (fun i σ H' => Same H5 H' ∧ ∃ x2 x3 x4 x5 x6 : Option V, σ = [some (.ref p), some (.ref a), x2, x3, x4, x5, x6]) ⟨Same.refl', none, none, none, none, none, rfl⟩ (fun i σ H' _ h => SqL.of (h.1 _ _ D.at_)) ?_ ?_⟩
    · rintro i y σ H' hi ⟨sT, x2, x3, x4, x5, x6, rfl⟩
      obtain ⟨d, hd, hx⟩ := D.xs.at hi
      obtain ⟨f1, f2, f3⟩ := D.ok d hd
      refine gname_of (seq_set (call_of (cons_of (var_of rfl (nil_of ⟨y, rfl, fun J q as s1 hq he => ?_⟩)))))
      have len : as.length = 29 := he.1
      have yd : DX (fun _ => False) J y d := hx.keep (sT.trans' s1).out
      refine seq_if (not_of (tb_of (cb_of (cons_of ?_))))
      refine ⟨_, rfl, q, rfl, ⟨_, SqL.of hq⟩, fun Dd nD => lc_list (K := K) (a := q) (xs := as.map V.ref) (fun i H' => Same J H' ∧ H' Dd = some (.lst (List.replicate i (.bl true)))) ⟨Same.new' Same.refl' nD, upd_same⟩ (fun i H' _ h => SqL.of (h.1 _ _ hq)) ?_ ?_⟩
      · rintro j x G hj ⟨sj, hD⟩
        rw [List.getElem?_map, Option.map_eq_some_iff] at hj
        obtain ⟨e, hj, rfl⟩ := hj
        have lt : j < 29 := by
          have := (List.getElem?_eq_some_iff.mp hj).1
          omega
        obtain ⟨e', hj', ea⟩ := he.2 j j (by rw [List.getElem?_range lt])
        rw [hj] at hj'
        cases hj'
        have ea' := ea.keep sj
        have yd' := yd.keep sj.out
        refine ⟨rfl, yes_if ?_⟩
        unfold teRight
        refine andv_of (op_of (cb_of (cons_of ?_)))
        refine ⟨_, rfl, e, C j, _, y, rfl, ea', (TE.E j).c.ex, (TE.E j).no, rfl, nil_of ⟨_, y, d, rfl, yd', f1, Nat.le_trans f2 (by decide), by omega, ?_⟩⟩
        refine cb_of (cons_of (var_of rfl (nil_of ⟨_, y, d, rfl, yd', f1, Nat.le_trans f2 (by decide), by omega, ?_⟩)))
        refine ⟨rfl, _, rfl, ?_⟩
        rw [if_pos (decide_eq_true rfl)]
        refine cb_of (cons_of (var_of rfl (cons_of (c_of (nil_of ⟨e, C j, _, _, _, true, rfl, ea', (TE.E j).c.ex, .ty _, TE.kitV j, ?_⟩)))))
        refine ⟨_, hD, by rw [List.length_replicate, sizeLine_eq]; omega, put_new sj nD, ?_⟩
        rw [upd_same, List.replicate_succ']
      · rintro G ⟨sG, hD⟩
        refine nil_of ⟨Dd, List.replicate (as.map V.ref).length true, rfl, SqL.of (by rw [List.map_replicate]; exact hD), _, rfl, ?_⟩
        rw [all_true]
        show if (!true) = true then _ else _
        rw [if_neg (by decide)]
        have ndE : (fun j' => decide (C j' = C 0)) = (fun j' => decide (C j' = C 0)) := rfl
        refine ⟨_, rfl, q, _, rfl, SqL.of (sG _ _ hq), for_enum (K := K) (a := q) (xs := as.map V.ref) (fun i σ H' => Same G H' ∧ ∃ x4 x5 x6 : Option V, σ = [some (.ref p), some (.ref a), some y, some (.ref q), x4, x5, x6]) ⟨Same.refl', _, _, _, rfl⟩ (fun i σ H' _ h => SqL.of (h.1 _ _ (sG _ _ hq))) ?_ ?_⟩
        · rintro j x σ2 G' T hj ⟨sj, z4, z5, z6, rfl⟩ nT
          rw [List.getElem?_map, Option.map_eq_some_iff] at hj
          obtain ⟨e, hj, rfl⟩ := hj
          have lt : j < 29 := by
            have := (List.getElem?_eq_some_iff.mp hj).1
            omega
          obtain ⟨e', hj', ea⟩ := he.2 j j (by rw [List.getElem?_range lt])
          rw [hj] at hj'
          cases hj'
          have sT2 : Same J (upd G' T (.tup [.int (j : Nat), .ref e])) := (sG.trans' sj).new' nT
          refine ⟨T, _, rfl, SqT.of upd_same, rfl, _, _, rfl, _, _, rfl, rfl, ?_⟩
          refine if_of (or_of (test_of (op_of (call_of (cons_of (var_of rfl (nil_of ⟨e, C j, _, fun j' => decide (C j' = C j), rfl, ea.keep sT2, (TE.E j).c.ex, TE.kit j, fun K1 r sr hr' => ?_⟩)))))))
          have s3 : Same J K1 := sT2.trans' sr
          have l29 : (as.map V.ref).length = 29 := by rw [List.length_map, len]
          refine ⟨_, rfl, q, _, rfl, .inl (SqL.of (s3 _ _ hq)), _, rfl, by omega, by rw [l29]; decide, fun De nE => ?_⟩
          rw [l29]
          refine lc_range (lo := 0) (n := 29) (fun i H' => Same K1 H' ∧ H' De = some (.lst ((List.range i).map fun m => .bl (decide (m = j))))) ⟨Same.new' Same.refl' nE, upd_same⟩ ?_ ?_
          · rintro m G2 hm ⟨sm, hD2⟩
            refine ⟨rfl, yes_if (op_of (var_of rfl (var_of rfl ?_)))⟩
            refine ⟨rfl, _, hD2, by rw [List.length_map, List.length_range, sizeLine_eq]; omega, put_new sm nE, ?_⟩
            rw [upd_same, List.range_succ, List.map_append]
            have e0 : decide (V.int (0 + (m : Int)) = V.int (j : Int)) = decide (m = j) := by
              apply decide_eq_decide.mpr
              constructor
              · intro z
                injection z with z
                omega
              · intro z
                rw [z]
                exact congrArg V.int (Int.zero_add _)
            show some (HO.lst (_ ++ [V.bl (decide (V.int (0 + (m : Int)) = V.int (j : Int)))])) = _
            rw [e0]
            rfl
          · rintro G2 ⟨sm, hD2⟩
            have eb : ((List.range 29).map fun j' => V.bl (decide (C j' = C j))) = ((List.range 29).map fun m => decide (m = j)).map V.bl := by
              rw [List.map_map]
              apply List.map_congr_left
              intro m hm
              have lm : m < 29 := List.mem_range.mp hm
              exact congrArg V.bl (decide_eq_decide.mpr ⟨fun z => TE.inj m j lm lt z, fun z => by rw [z]⟩)
            rw [eb] at hr'
            have hD3 : G2 De = some (.lst (((List.range 29).map fun m => decide (m = j)).map V.bl)) := by
              rw [hD2, List.map_map]
              rfl
            refine ⟨_, _, .lst (SqL.of (sm _ _ hr')) (dpAll_bl _), .lst (SqL.of hD3) (dpAll_bl _), kinds_shaped j lt, kinds_shaped j lt, _, rfl, ?_⟩
            rw [kinds_eqv j lt]
            rw [if_neg (by decide)]
            have s4 : Same J G2 := s3.trans' sm
            have ea4 := ea.keep s4
            refine not_of (tb_of (cb_of (cons_of (var_of rfl (cons_of (c_of (nil_of ⟨e, C j, _, _, _, true, rfl, ea4, (TE.E j).c.ex, .own _, TE.kitP j, _, rfl, ?_⟩)))))))
            rw [if_neg (by decide)]
            exact ⟨(sj.trans' (((Same.new' Same.refl' nT).trans' sr).trans' sm)), _, _, _, rfl⟩
        · rintro σ2 G' ⟨sj, z4, z5, z6, rfl⟩
          exact ⟨sT.trans' (s1.trans' (sG.trans' sj)), _, _, _, _, _, rfl⟩
    · rintro σ G ⟨sT, z2, z3, z4, z5, z6, rfl⟩
      have hv := sT _ _ D.at_
      have lv : vs.length = 3 := D.xs.1.trans D.len
      have l0 : 0 < vs.length := by omega
      have e0 : vs[0]? = some vs[0] := List.getElem?_eq_getElem l0
      obtain ⟨d0, hd0, x0⟩ := D.xs.at e0
      obtain ⟨f1, f2, f3⟩ := D.ok d0 hd0
      dsimp only
      refine ret_of ?_
      refine andv_of (op_of (cb_of (cons_of ?_)))
      refine ⟨_, rfl, a, vs, 0, vs[0], rfl, rfl, SqL.of hv, atI_nat (j := 0) e0, ?_⟩
      refine nil_of ?_
      dsimp only
      refine err_post TE.EP fun e1 G1 r1 ee1 => ?_
      refine ⟨e1, CP, _, vs[0], rfl, ee1, TE.EP.c.ex, TE.EP.no, rfl, ?_⟩
      refine nil_of ⟨_, vs[0], d0, rfl, x0.keep (sT.trans' r1).out, f1, Nat.le_trans f2 (by decide), by omega, ?_⟩
      refine cb_of (cons_of ?_)
      refine ⟨_, rfl, a, vs, 0, vs[0], rfl, rfl, SqL.of (r1 _ _ hv), atI_nat (j := 0) e0, ?_⟩
      refine nil_of ⟨_, vs[0], d0, rfl, x0.keep (sT.trans' r1).out, f1, Nat.le_trans f2 (by decide), by omega, ?_⟩
      refine ⟨rfl, _, rfl, ?_⟩
      rw [if_pos (decide_eq_true rfl)]
      refine notv_of (cb_of (cons_of (call_of (cons_of ?_))))
      refine cons_of (c_of (nil_of ?_))
      dsimp only
      refine err_post TE.EP fun e2 G2 r2 ee2 => ?_
      refine nil_of ⟨e2, CP, _, fun _ => false, rfl, ee2, TE.EP.c.ex, TE.kitB, fun G3 r r3 hr3 => ?_⟩
      refine nil_of ⟨r, (List.range 29).map fun _ => false, rfl, SqL.of (by rw [List.map_map]; exact hr3), _, rfl, ?_⟩
      rw [any_false]
      exact k _ (b7.trans (((sT.trans' r1).trans' r2).trans' r3).butP)
end
end K00

set_option maxHeartbeats 1000000
namespace K00
open PySem PySem.Spec PyProof.Rows L2 Lp
structure TxtL (mg : Str → Option Value) (K : PySem.W.Frag) (fPot fCells fRight : Addr) : Prop where
  all : mg "all" = none
  gPot : mg "_law_pot" = some (.ref fPot)
  kPot : PySem.W.keepIn K (.ref fPot) = true
  gCells : mg "_law_cells" = some (.ref fCells)
  kCells : PySem.W.keepIn K (.ref fCells) = true
  gRight : mg "_law_right" = some (.ref fRight)
  kRight : PySem.W.keepIn K (.ref fRight) = true
def spLaw (K : PySem.W.Frag) : Sp := fun vs H Q _ => ∃ (a : Addr) (ns : List Int), vs = [.ref a] ∧ SqL K H a (ns.map V.int) ∧ ns.length ≤ 63 ∧ (∀ z ∈ ns, Builtin.Int.intBits z ≤ 1048576) ∧ ∀ H', Q (.bl true) H'
def lawN : List Str := ["_law_script", "_law_place"]
section
variable {P : Program} {w : World} {K : PySem.W.Frag} {mg : Str → Option Value} {base : Heap} {fPot fCells fRight : Addr} {fdP fdC fdR : FuncData}
theorem scLaw : FnScope lawN ["_law_script"] (defScope sLaw) := ⟨rfl, rfl, rfl, by decide +kernel, rfl, by decide +kernel, by decide +kernel⟩
theorem ok_law {f : Addr} {fd : FuncData} (F : Fun K "law" "law" sLaw f fd) (T : TxtL mg K fPot fCells fRight) (GP : FnOk P w K mg base CX0 1 fPot fdP ["_law_script", "_law_place"] (spPot K)) (bP : Binds K fdP ["_law_script", "_law_place"] [])
    (GC : FnOk P w K mg base CX0 1 fCells fdC ["_law_script", "_law_limit"] (spCells K)) (bC : Binds K fdC ["_law_script", "_law_limit"] []) (GR : FnG P w K mg base CX0 4 fRight fdR ["_law_pot_here"] spRight) (bR : Binds K fdR ["_law_pot_here"] []) :
    FnG P w K mg base CX0 5 f fd ["_law_script"] (spLaw K) := by
  refine okG F scLaw (fun vs H Q E h => ?_) (fun cdv A outer s H vs Q E hG hr h => ?_)
  · obtain ⟨a, ns, rfl, _⟩ := h
    rfl
  · obtain ⟨a, ns, rfl, hS, hl, hb, k⟩ := h
    have hr1 : Room 1 _ := hr.mono (by decide)
    refine ⟨_, pss_one (ps_ret (pe_callB (cr_all rfl) (by rfl) T.all (by decide +kernel) (pa_lc (pe_lc (own := [("_law_place", 1)]) (g := gName 1) (tt := tYes) (te := tCall spRight [] E0 (tCons (tCall (spPot K) [] E0 (tCons (tVar 0) (tCons (tVar 1) tNil))) tNil)) rfl scLaw.nd
        (pi_list (pe_call GC hr1 rfl T.gCells T.kCells bC .nil pass0 (pa_n (pv 0) (pa_c pe_int pa_nil)))) (blkOk_by (N := lawN) (sc := defScope sLaw) (by decide +kernel)) (fun _ _ _ _ _ => pg_name (i := 1) scLaw.nd rfl (Or.inl rfl)) (fun _ _ _ _ _ => pts_nil)
        (fun _ _ _ _ _ => pe_callG GR (by exact hG) (by exact hr) rfl T.gRight T.kRight bR .nil pass0 (pa_f (pe_call GP (by exact hr1) rfl T.gPot T.kPot bP .nil pass0 (pa_n (pv 0) (pa_n (pv 1) pa_nil))) pa_nil))) pa_nil))), ?_⟩
    refine ret_of (cb_of (cons_of ?_))
    refine ⟨_, rfl, a, ns, 3, rfl, hS, by decide, by decide, by omega, fun q n nq hn => ?_⟩
    refine ⟨q, rfl, ⟨_, SqL.of upd_same⟩, fun D nD => ?_⟩
    have sq : Same H (upd H q (.lst (rgV 0 (n : Int)))) := Same.new' Same.refl' nq
    refine lc_list (K := K) (a := q) (xs := rgV 0 (n : Int)) (fun i H' => Same (upd H q (.lst (rgV 0 (n : Int)))) H' ∧ H' D = some (.lst (List.replicate i (.bl true)))) ⟨Same.new' Same.refl' nD, upd_same⟩ (fun i H' _ h => SqL.of (h.1 _ _ upd_same)) ?_ ?_
    · rintro i x G hi ⟨sG, hD⟩
      have li : i < (rgV 0 (n : Int)).length := (List.getElem?_eq_some_iff.mp hi).1
      rw [rgV_length] at li
      have l3 : i < 3 := by omega
      have ex : x = V.int (i : Nat) := by
        unfold rgV at hi
        rw [List.getElem?_map, Option.map_eq_some_iff] at hi
        obtain ⟨m, hm, rfl⟩ := hi
        have em : m = i := by
          have := List.getElem?_eq_some_iff.mp hm
          obtain ⟨_, h2⟩ := this
          rw [List.getElem_range] at h2
          exact h2.symm
        rw [em]
        exact congrArg V.int (Int.zero_add _)
      rw [ex]
      refine ⟨rfl, yes_if (call_of (cons_of (call_of (cons_of (var_of rfl (cons_of (var_of rfl (nil_of ⟨a, ns, i, rfl, (sq.trans' sG).seq hS, hb, by omega, fun p own mix np hI => ?_⟩))))))))⟩
      refine nil_of ⟨p, 0, rfl, ⟨own, mix, 0, upd_same, hI, Nat.le_refl 0⟩, by decide, fun H' bt => ?_⟩
      have s2 : Same G H' := fun b o e => bt b o (ne_of_none e np) ((upd_ne (ne_of_none e np)).trans e)
      refine ⟨_, s2 _ _ hD, by rw [List.length_replicate, sizeLine_eq]; omega, put_new (sG.trans' s2) nD, ?_⟩
      rw [upd_same, List.replicate_succ']
    · rintro G ⟨sG, hD⟩
      refine nil_of ⟨D, List.replicate (rgV 0 (n : Int)).length true, rfl, SqL.of (by rw [List.map_replicate]; exact hD), ?_⟩
      rw [all_true]
      exact k _
end
/-! ### the classes -/
/-- a class of errors, its ancestors bm -/
structure ErrM (K : PySem.W.Frag) (C fI : Addr) (bm : List Value) : Prop where
  f : ErrF K C fI
  mro : ∃ cd, PySem.W.clsIn K C = some cd ∧ cd.mro = .ref C :: bm
  ty : PySem.W.typeIn K (.ref C) = some (.type "type")
theorem mkErr {K : PySem.W.Frag} {C fI : Addr} {nm q : Str} {N : Addr} {bs bm : List Value} {sn : List Str} {sub : List Value} {ab : Bool} {col : Option Bool} {dd : Option Addr} {m0 m1 m2 m3 m5 : Option Value} (bm' : List Value)
    (x : K.lookup C = some (excClassObj nm q C N bs bm true sn sub ab col dd m0 m1 m2 m3 m5 "ValueError.__new__")) (e : bm = bm') (r : PySem.HandSPX.refsVE bm = true)
    (sa : PySem.W.findIn K (.ref C) "__setattr__" = some (some (.builtin "object.__setattr__"))) (hg : PySem.W.findIn K (.ref C) "__getattribute__" = some (some (.builtin "BaseException.__getattribute__"))) (hk : PySem.W.findIn K (.ref C) "__getattr__" = some none)
    (exC : PySem.W.subIn K (.ref C) (.type "BaseException") = some true) (tyC : PySem.W.typeIn K (.ref C) = some (.type "type")) (kC : PySem.W.keepIn K (.ref C) = true) (hd : PySem.W.hasDictIn K C = true) (ha : PySem.W.findIn K (.ref C) "__class__" = some (some (.builtin "object.__class__")))
    (hn : PySem.W.specialIn K (.builtin "object.__class__") "__get__" = some (some (.builtin "getset_descriptor.__get__"))) (ht : PySem.W.takesIn K (.builtin "object.__class__") = some true) (hm : PySem.W.mroIn K C (.type "object") = some true)
    (iC : PySem.W.findIn K (.ref C) "__init__" = some (some (.ref fI))) (no : PySem.W.findIn K (.ref C) "value" = some none) : ErrM K C fI bm' where
  f := ⟨⟨⟨⟨nm, q, N, bs, bm, sn, sub, ab, col, dd, m0, m1, m2, m3, m5, x, r⟩, sa, exC, tyC, kC⟩, ⟨hg, hk, exC, hd, ha, hn, ht, hm⟩, iC⟩, no⟩
  mro := by
    refine ⟨{ name := nm, bases := bs, mro := .ref C :: bm, ns := N, qualname := q, hasDict := true, slotNames := sn, subclasses := sub, abstract := ab, collection := col, hasDel := false }, ?_, ?_⟩
    · unfold PySem.W.clsIn
      rw [x] <;> rfl
    · rw [← e]
  ty := tyC
section
variable {K : PySem.W.Frag} {C D fI : Addr} {bm bn : List Value}
theorem kit_ref (c : ErrM K C fI bm) (d : ErrM K D fI bn) : PySem.W.kitOne K (.ref C) (.ref D) = some ((Value.ref C :: bm).contains (.ref D)) := by
  obtain ⟨cd, h1, h2⟩ := c.mro
  obtain ⟨ce, h3, _⟩ := d.mro
  unfold PySem.W.kitOne
  by_cases e : (Value.ref C == Value.ref D) = true
  · rw [if_pos e]
    have e' : C = D := Value.ref.inj (beq_iff_eq.mp e)
    rw [e', List.contains_cons, beq_self_eq_true, Bool.true_or]
  · rw [if_neg e]
    show (if ((PySem.W.clsIn K D).isSome && PySem.W.typeIn K (.ref D) == some (.type "type")) = true then PySem.W.subIn K (.ref C) (.ref D) else none) = _
    rw [h3, d.ty, if_pos (by simp)]
    show PySem.W.mroIn K C (.ref D) = _
    unfold PySem.W.mroIn
    rw [h1, Option.bind_some, h2]
    rfl
theorem kit_ve (c : ErrM K C fI bm) : PySem.W.kitOne K (.ref C) (.type "ValueError") = some ((Value.ref C :: bm).contains (.type "ValueError")) := by
  obtain ⟨cd, h1, h2⟩ := c.mro
  unfold PySem.W.kitOne
  have ne : ¬ (Value.ref C == Value.type "ValueError") = true := by
    intro z
    have z2 : Value.ref C = Value.type "ValueError" := beq_iff_eq.mp z
    cases z2
  rw [if_neg ne]
  show (if PySem.W.kitMeta "ValueError" = true then PySem.W.subIn K (.ref C) (.type "ValueError") else none) = _
  rw [if_pos (by decide +kernel)]
  show PySem.W.mroIn K C (.type "ValueError") = _
  unfold PySem.W.mroIn
  rw [h1, Option.bind_some, h2]
  rfl
end
end K00

set_option maxHeartbeats 4000000
namespace K00
open PySem PySem.Spec PyProof.Rows L2 Lp
def veB : List Value := [.type "ValueError", .type "Exception", .type "BaseException", .type "object"]
theorem cont_ref {a b q : Addr} (h : b ≠ q) : (Value.ref a :: Value.ref q :: veB).contains (.ref b) = decide (b = a) := by
  have e1 : (Value.ref b == Value.ref a) = decide (b = a) := by
    by_cases e : b = a
    · rw [e, beq_self_eq_true, decide_eq_true rfl]
    · rw [decide_eq_false e]
      exact beq_eq_false_iff_ne.mpr fun z => e (Value.ref.inj z)
  have e2 : (Value.ref b == Value.ref q) = false := beq_eq_false_iff_ne.mpr fun z => h (Value.ref.inj z)
  have e3 : veB.contains (Value.ref b) = false := by
    unfold veB
    simp [List.contains_cons]
  rw [List.contains_cons, List.contains_cons, e1, e2, e3, Bool.false_or, Bool.or_false]
theorem cont_p {a q : Addr} : (Value.ref a :: Value.ref q :: veB).contains (.ref q) = true := by
  rw [List.contains_cons, List.contains_cons, beq_self_eq_true, Bool.true_or, Bool.or_true]
theorem cont_v {a q : Addr} : (Value.ref a :: Value.ref q :: veB).contains (.type "ValueError") = true := by
  have e : veB.contains (Value.type "ValueError") = true := by decide +kernel
  rw [List.contains_cons, List.contains_cons, e, Bool.or_true, Bool.or_true]
theorem cont_b {b q : Addr} (h : b ≠ q) : (Value.ref q :: veB).contains (.ref b) = false := by
  have e2 : (Value.ref b == Value.ref q) = false := beq_eq_false_iff_ne.mpr fun z => h (Value.ref.inj z)
  have e3 : veB.contains (Value.ref b) = false := by
    unfold veB
    simp [List.contains_cons]
  rw [List.contains_cons, e2, e3, Bool.false_or]
theorem getD_all {R : Addr → Prop} {l : List Addr} {d : Addr} (h : ∀ x ∈ l, R x) (hd : R d) (j : Nat) : R (l.getD j d) := by
  rw [List.getD_eq_getElem?_getD]
  cases e : l[j]? with
  | none => exact hd
  | some x => exact h x (List.mem_of_getElem? e)
theorem getD_inj {l : List Addr} {d : Addr} (n : l.Nodup) {i j : Nat} (hi : i < l.length) (hj : j < l.length) (e : l.getD i d = l.getD j d) : i = j := by
  rw [List.getD_eq_getElem?_getD, List.getD_eq_getElem?_getD, List.getElem?_eq_getElem hi, List.getElem?_eq_getElem hj] at e
  exact (List.getElem_inj n).mp e
theorem binds_of {K : PySem.W.Frag} {x qual : Str} {st : Stmt} {f : Addr} {fd : FuncData} {ps : List Str} (F : Fun K x qual st f fd)
    (h : ∀ (kV doc pm : Value) (an : Option Addr) (cdv ct : Value) (us : List Value), us.length = ps.length → bindArgs (PySem.W.fnOf x qual (defArgs st) (defBody st) (defScope st) .none kV doc pm an cdv ct) ⟨us, []⟩ = pure (ps.zip us)) : Binds K fd ps [] := F.binds h
theorem all_mk {l : PySem.W.OpenLaw} {w : World} {K : PySem.W.Frag} {h : Heap} {mg : Str → Option Value} {fa f_init f_pot f_take f_of f_cells f_odd f_all f_kinds f_right f_law cP c0 c1 c2 c3 c4 c5 c6 c7 c8 c9 c10 c11 c12 c13 c14 c15 c16 c17 c18 c19 c20 c21 c22 c23 c24 c25 c26 c27 c28 : Addr}
    {od_init an_init : Option Addr} {sl_init : Array (Option Value)} {oc_init kV_init dc_init pm_init cd_init ct_init : Value} {od_pot an_pot : Option Addr} {sl_pot : Array (Option Value)} {oc_pot kV_pot dc_pot pm_pot cd_pot ct_pot : Value} {od_take an_take : Option Addr} {sl_take : Array (Option Value)} {oc_take kV_take dc_take pm_take cd_take ct_take : Value} {od_of an_of : Option Addr} {sl_of : Array (Option Value)} {oc_of kV_of dc_of pm_of cd_of ct_of : Value} {od_cells an_cells : Option Addr} {sl_cells : Array (Option Value)} {oc_cells kV_cells dc_cells pm_cells cd_cells ct_cells : Value} {od_odd an_odd : Option Addr} {sl_odd : Array (Option Value)} {oc_odd kV_odd dc_odd pm_odd cd_odd ct_odd : Value} {od_all an_all : Option Addr} {sl_all : Array (Option Value)} {oc_all kV_all dc_all pm_all cd_all ct_all : Value} {od_kinds an_kinds : Option Addr} {sl_kinds : Array (Option Value)} {oc_kinds kV_kinds dc_kinds pm_kinds cd_kinds ct_kinds : Value} {od_right an_right : Option Addr} {sl_right : Array (Option Value)} {oc_right kV_right dc_right pm_right cd_right ct_right : Value} {od_law an_law : Option Addr} {sl_law : Array (Option Value)} {oc_law kV_law dc_law pm_law cd_law ct_law : Value}
    (X : K.In h) (G : h.Ns mainGlobals mg) (hfa : mg "law" = some (.ref fa))
    (aC_P : PySem.W.nsIn K mainGlobals "PairError" = some (some (.ref cP)))
    (aC_0 : PySem.W.nsIn K mainGlobals "BadBook" = some (some (.ref c0)))
    (aC_1 : PySem.W.nsIn K mainGlobals "NoPerson" = some (some (.ref c1)))
    (aC_2 : PySem.W.nsIn K mainGlobals "BadChoice" = some (some (.ref c2)))
    (aC_3 : PySem.W.nsIn K mainGlobals "BadRow" = some (some (.ref c3)))
    (aC_4 : PySem.W.nsIn K mainGlobals "Round" = some (some (.ref c4)))
    (aC_5 : PySem.W.nsIn K mainGlobals "Full" = some (some (.ref c5)))
    (aC_6 : PySem.W.nsIn K mainGlobals "NoSaying" = some (some (.ref c6)))
    (aC_7 : PySem.W.nsIn K mainGlobals "OtherPeople" = some (some (.ref c7)))
    (aC_8 : PySem.W.nsIn K mainGlobals "BadLists" = some (some (.ref c8)))
    (aC_9 : PySem.W.nsIn K mainGlobals "BadPairs" = some (some (.ref c9)))
    (aC_10 : PySem.W.nsIn K mainGlobals "NoList" = some (some (.ref c10)))
    (aC_11 : PySem.W.nsIn K mainGlobals "OtherBook" = some (some (.ref c11)))
    (aC_12 : PySem.W.nsIn K mainGlobals "NotSure" = some (some (.ref c12)))
    (aC_13 : PySem.W.nsIn K mainGlobals "BadBound" = some (some (.ref c13)))
    (aC_14 : PySem.W.nsIn K mainGlobals "BadBarred" = some (some (.ref c14)))
    (aC_15 : PySem.W.nsIn K mainGlobals "BadSide" = some (some (.ref c15)))
    (aC_16 : PySem.W.nsIn K mainGlobals "NoneSure" = some (some (.ref c16)))
    (aC_17 : PySem.W.nsIn K mainGlobals "TooMany" = some (some (.ref c17)))
    (aC_18 : PySem.W.nsIn K mainGlobals "TooManyOpen" = some (some (.ref c18)))
    (aC_19 : PySem.W.nsIn K mainGlobals "BadOffers" = some (some (.ref c19)))
    (aC_20 : PySem.W.nsIn K mainGlobals "BadHopes" = some (some (.ref c20)))
    (aC_21 : PySem.W.nsIn K mainGlobals "BadPair" = some (some (.ref c21)))
    (aC_22 : PySem.W.nsIn K mainGlobals "Taken" = some (some (.ref c22)))
    (aC_23 : PySem.W.nsIn K mainGlobals "NotTogether" = some (some (.ref c23)))
    (aC_24 : PySem.W.nsIn K mainGlobals "NothingToUndo" = some (some (.ref c24)))
    (aC_25 : PySem.W.nsIn K mainGlobals "NothingToRedo" = some (some (.ref c25)))
    (aC_26 : PySem.W.nsIn K mainGlobals "NoTrial" = some (some (.ref c26)))
    (aC_27 : PySem.W.nsIn K mainGlobals "BadJournal" = some (some (.ref c27)))
    (aC_28 : PySem.W.nsIn K mainGlobals "BadLine" = some (some (.ref c28)))
    (a_init : PySem.W.findIn K (.ref cP) "__init__" = some (some (.ref f_init))) (l_init : K.lookup f_init = some ⟨oc_init, od_init, .func (PySem.W.fnOf "__init__" "PairError.__init__" (defArgs sInit) (defBody sInit) (defScope sInit) .none kV_init dc_init pm_init an_init cd_init ct_init), sl_init⟩) (c_init : PySem.W.codeIn K cd_init "PairError.__init__" = true) (k_init : PySem.W.keepIn K (.ref f_init) = true)
    (a_pot : PySem.W.nsIn K mainGlobals "_law_pot" = some (some (.ref f_pot))) (l_pot : K.lookup f_pot = some ⟨oc_pot, od_pot, .func (PySem.W.fnOf "_law_pot" "_law_pot" (defArgs sPot) (defBody sPot) (defScope sPot) .none kV_pot dc_pot pm_pot an_pot cd_pot ct_pot), sl_pot⟩) (c_pot : PySem.W.codeIn K cd_pot "_law_pot" = true) (k_pot : PySem.W.keepIn K (.ref f_pot) = true)
    (a_take : PySem.W.nsIn K mainGlobals "_law_take" = some (some (.ref f_take))) (l_take : K.lookup f_take = some ⟨oc_take, od_take, .func (PySem.W.fnOf "_law_take" "_law_take" (defArgs sTake) (defBody sTake) (defScope sTake) .none kV_take dc_take pm_take an_take cd_take ct_take), sl_take⟩) (c_take : PySem.W.codeIn K cd_take "_law_take" = true) (k_take : PySem.W.keepIn K (.ref f_take) = true)
    (a_of : PySem.W.nsIn K mainGlobals "_law_of" = some (some (.ref f_of))) (l_of : K.lookup f_of = some ⟨oc_of, od_of, .func (PySem.W.fnOf "_law_of" "_law_of" (defArgs sOf) (defBody sOf) (defScope sOf) .none kV_of dc_of pm_of an_of cd_of ct_of), sl_of⟩) (c_of : PySem.W.codeIn K cd_of "_law_of" = true) (k_of : PySem.W.keepIn K (.ref f_of) = true)
    (a_cells : PySem.W.nsIn K mainGlobals "_law_cells" = some (some (.ref f_cells))) (l_cells : K.lookup f_cells = some ⟨oc_cells, od_cells, .func (PySem.W.fnOf "_law_cells" "_law_cells" (defArgs sCells) (defBody sCells) (defScope sCells) .none kV_cells dc_cells pm_cells an_cells cd_cells ct_cells), sl_cells⟩) (c_cells : PySem.W.codeIn K cd_cells "_law_cells" = true) (k_cells : PySem.W.keepIn K (.ref f_cells) = true)
    (a_odd : PySem.W.nsIn K mainGlobals "_law_odd" = some (some (.ref f_odd))) (l_odd : K.lookup f_odd = some ⟨oc_odd, od_odd, .func (PySem.W.fnOf "_law_odd" "_law_odd" (defArgs sOdd) (defBody sOdd) (defScope sOdd) .none kV_odd dc_odd pm_odd an_odd cd_odd ct_odd), sl_odd⟩) (c_odd : PySem.W.codeIn K cd_odd "_law_odd" = true) (k_odd : PySem.W.keepIn K (.ref f_odd) = true)
    (a_all : PySem.W.nsIn K mainGlobals "_law_all_of" = some (some (.ref f_all))) (l_all : K.lookup f_all = some ⟨oc_all, od_all, .func (PySem.W.fnOf "_law_all_of" "_law_all_of" (defArgs sAll) (defBody sAll) (defScope sAll) .none kV_all dc_all pm_all an_all cd_all ct_all), sl_all⟩) (c_all : PySem.W.codeIn K cd_all "_law_all_of" = true) (k_all : PySem.W.keepIn K (.ref f_all) = true)
    (a_kinds : PySem.W.nsIn K mainGlobals "_law_kinds_of" = some (some (.ref f_kinds))) (l_kinds : K.lookup f_kinds = some ⟨oc_kinds, od_kinds, .func (PySem.W.fnOf "_law_kinds_of" "_law_kinds_of" (defArgs sKinds) (defBody sKinds) (defScope sKinds) .none kV_kinds dc_kinds pm_kinds an_kinds cd_kinds ct_kinds), sl_kinds⟩) (c_kinds : PySem.W.codeIn K cd_kinds "_law_kinds_of" = true) (k_kinds : PySem.W.keepIn K (.ref f_kinds) = true)
    (a_right : PySem.W.nsIn K mainGlobals "_law_right" = some (some (.ref f_right))) (l_right : K.lookup f_right = some ⟨oc_right, od_right, .func (PySem.W.fnOf "_law_right" "_law_right" (defArgs sRight) (defBody sRight) (defScope sRight) .none kV_right dc_right pm_right an_right cd_right ct_right), sl_right⟩) (c_right : PySem.W.codeIn K cd_right "_law_right" = true) (k_right : PySem.W.keepIn K (.ref f_right) = true)
    (a_law : PySem.W.nsIn K mainGlobals "law" = some (some (.ref f_law))) (l_law : K.lookup f_law = some ⟨oc_law, od_law, .func (PySem.W.fnOf "law" "law" (defArgs sLaw) (defBody sLaw) (defScope sLaw) .none kV_law dc_law pm_law an_law cd_law ct_law), sl_law⟩) (c_law : PySem.W.codeIn K cd_law "law" = true) (k_law : PySem.W.keepIn K (.ref f_law) = true)
    (tI : PySem.W.typeIn K (.ref f_init) = some (.type "function"))
    (z_len : PySem.W.nsIn K mainGlobals "len" = some none)
    (z_int : PySem.W.nsIn K mainGlobals "int" = some none)
    (z_abs : PySem.W.nsIn K mainGlobals "abs" = some none)
    (z_range : PySem.W.nsIn K mainGlobals "range" = some none)
    (z_list : PySem.W.nsIn K mainGlobals "list" = some none)
    (z_max : PySem.W.nsIn K mainGlobals "max" = some none)
    (z_min : PySem.W.nsIn K mainGlobals "min" = some none)
    (z_isinstance : PySem.W.nsIn K mainGlobals "isinstance" = some none)
    (z_all : PySem.W.nsIn K mainGlobals "all" = some none)
    (z_any : PySem.W.nsIn K mainGlobals "any" = some none)
    (z_repr : PySem.W.nsIn K mainGlobals "repr" = some none)
    (z_enumerate : PySem.W.nsIn K mainGlobals "enumerate" = some none)
    (z_ValueError : PySem.W.nsIn K mainGlobals "ValueError" = some none)
    (EP : ErrM K cP f_init veB)
    (E0 : ErrM K c0 f_init (.ref cP :: veB))
    (E1 : ErrM K c1 f_init (.ref cP :: veB))
    (E2 : ErrM K c2 f_init (.ref cP :: veB))
    (E3 : ErrM K c3 f_init (.ref cP :: veB))
    (E4 : ErrM K c4 f_init (.ref cP :: veB))
    (E5 : ErrM K c5 f_init (.ref cP :: veB))
    (E6 : ErrM K c6 f_init (.ref cP :: veB))
    (E7 : ErrM K c7 f_init (.ref cP :: veB))
    (E8 : ErrM K c8 f_init (.ref cP :: veB))
    (E9 : ErrM K c9 f_init (.ref cP :: veB))
    (E10 : ErrM K c10 f_init (.ref cP :: veB))
    (E11 : ErrM K c11 f_init (.ref cP :: veB))
    (E12 : ErrM K c12 f_init (.ref cP :: veB))
    (E13 : ErrM K c13 f_init (.ref cP :: veB))
    (E14 : ErrM K c14 f_init (.ref cP :: veB))
    (E15 : ErrM K c15 f_init (.ref cP :: veB))
    (E16 : ErrM K c16 f_init (.ref cP :: veB))
    (E17 : ErrM K c17 f_init (.ref cP :: veB))
    (E18 : ErrM K c18 f_init (.ref cP :: veB))
    (E19 : ErrM K c19 f_init (.ref cP :: veB))
    (E20 : ErrM K c20 f_init (.ref cP :: veB))
    (E21 : ErrM K c21 f_init (.ref cP :: veB))
    (E22 : ErrM K c22 f_init (.ref cP :: veB))
    (E23 : ErrM K c23 f_init (.ref cP :: veB))
    (E24 : ErrM K c24 f_init (.ref cP :: veB))
    (E25 : ErrM K c25 f_init (.ref cP :: veB))
    (E26 : ErrM K c26 f_init (.ref cP :: veB))
    (E27 : ErrM K c27 f_init (.ref cP :: veB))
    (E28 : ErrM K c28 f_init (.ref cP :: veB))
    (nd : [cP, c0, c1, c2, c3, c4, c5, c6, c7, c8, c9, c10, c11, c12, c13, c14, c15, c16, c17, c18, c19, c20, c21, c22, c23, c24, c25, c26, c27, c28].Nodup) :
    ∃ fd : FuncData, (∀ (s : Shared) (v : Value), BindsTo s fd ⟨[v], []⟩ [("_law_script", v)]) ∧ ∀ base : Heap, K.In base → base.Ns mainGlobals mg → FnG l.prog w K mg base CX0 5 fa fd ["_law_script"] (spLaw K) := by
  have e := hfa.symm.trans (PySem.W.mg_of X G a_law)
  cases e
  have F_init := fun_mk (st := sInit) l_init c_init k_init
  have b_init := F_init.binds (ps := ["self", "value"]) fun _ _ _ _ _ _ us hl => match us, hl with | [_, _], _ => rfl
  have F_pot := fun_mk (st := sPot) l_pot c_pot k_pot
  have b_pot := F_pot.binds (ps := ["_law_script", "_law_place"]) fun _ _ _ _ _ _ us hl => match us, hl with | [_, _], _ => rfl
  have F_take := fun_mk (st := sTake) l_take c_take k_take
  have b_take := F_take.binds (ps := ["_law_pot_here", "_law_upto"]) fun _ _ _ _ _ _ us hl => match us, hl with | [_, _], _ => rfl
  have F_of := fun_mk (st := sOf) l_of c_of k_of
  have b_of := F_of.binds (ps := ["_law_pot_here", "_law_some"]) fun _ _ _ _ _ _ us hl => match us, hl with | [_, _], _ => rfl
  have F_cells := fun_mk (st := sCells) l_cells c_cells k_cells
  have b_cells := F_cells.binds (ps := ["_law_script", "_law_limit"]) fun _ _ _ _ _ _ us hl => match us, hl with | [_, _], _ => rfl
  have F_odd := fun_mk (st := sOdd) l_odd c_odd k_odd
  have b_odd := F_odd.binds (ps := ["_law_pot_here"]) fun _ _ _ _ _ _ us hl => match us, hl with | [_], _ => rfl
  have F_all := fun_mk (st := sAll) l_all c_all k_all
  have b_all := F_all.binds (ps := ["_law_one"]) fun _ _ _ _ _ _ us hl => match us, hl with | [_], _ => rfl
  have F_kinds := fun_mk (st := sKinds) l_kinds c_kinds k_kinds
  have b_kinds := F_kinds.binds (ps := ["_law_error"]) fun _ _ _ _ _ _ us hl => match us, hl with | [_], _ => rfl
  have F_right := fun_mk (st := sRight) l_right c_right k_right
  have b_right := F_right.binds (ps := ["_law_pot_here"]) fun _ _ _ _ _ _ us hl => match us, hl with | [_], _ => rfl
  have F_law := fun_mk (st := sLaw) l_law c_law k_law
  have b_law := F_law.binds (ps := ["_law_script"]) fun _ _ _ _ _ _ us hl => match us, hl with | [_], _ => rfl
  have lst : ∀ x ∈ [c0, c1, c2, c3, c4, c5, c6, c7, c8, c9, c10, c11, c12, c13, c14, c15, c16, c17, c18, c19, c20, c21, c22, c23, c24, c25, c26, c27, c28], ErrM K x f_init (.ref cP :: veB) := List.forall_mem_cons.mpr ⟨E0, List.forall_mem_cons.mpr ⟨E1, List.forall_mem_cons.mpr ⟨E2, List.forall_mem_cons.mpr ⟨E3, List.forall_mem_cons.mpr ⟨E4, List.forall_mem_cons.mpr ⟨E5, List.forall_mem_cons.mpr ⟨E6, List.forall_mem_cons.mpr ⟨E7, List.forall_mem_cons.mpr ⟨E8, List.forall_mem_cons.mpr ⟨E9, List.forall_mem_cons.mpr ⟨E10, List.forall_mem_cons.mpr ⟨E11, List.forall_mem_cons.mpr ⟨E12, List.forall_mem_cons.mpr ⟨E13, List.forall_mem_cons.mpr ⟨E14, List.forall_mem_cons.mpr ⟨E15, List.forall_mem_cons.mpr ⟨E16, List.forall_mem_cons.mpr ⟨E17, List.forall_mem_cons.mpr ⟨E18, List.forall_mem_cons.mpr ⟨E19, List.forall_mem_cons.mpr ⟨E20, List.forall_mem_cons.mpr ⟨E21, List.forall_mem_cons.mpr ⟨E22, List.forall_mem_cons.mpr ⟨E23, List.forall_mem_cons.mpr ⟨E24, List.forall_mem_cons.mpr ⟨E25, List.forall_mem_cons.mpr ⟨E26, List.forall_mem_cons.mpr ⟨E27, List.forall_mem_cons.mpr ⟨E28, fun x hx => nomatch hx⟩⟩⟩⟩⟩⟩⟩⟩⟩⟩⟩⟩⟩⟩⟩⟩⟩⟩⟩⟩⟩⟩⟩⟩⟩⟩⟩⟩⟩
  have EE : ∀ j, ErrM K (([c0, c1, c2, c3, c4, c5, c6, c7, c8, c9, c10, c11, c12, c13, c14, c15, c16, c17, c18, c19, c20, c21, c22, c23, c24, c25, c26, c27, c28] : List Addr).getD j c0) f_init (.ref cP :: veB) := fun j => getD_all lst E0 j
  have nd2 := List.nodup_cons.mp nd
  have off : ∀ j, ([c0, c1, c2, c3, c4, c5, c6, c7, c8, c9, c10, c11, c12, c13, c14, c15, c16, c17, c18, c19, c20, c21, c22, c23, c24, c25, c26, c27, c28] : List Addr).getD j c0 ≠ cP := fun j => getD_all (R := fun x => x ≠ cP) (fun x hx z => nd2.1 (by rw [← z]; exact hx)) (fun z => nd2.1 (by rw [← z]; exact List.mem_cons_self)) j
  have TN : TxtN mg := ⟨PySem.W.mg_none_of X G z_len, PySem.W.mg_none_of X G z_int, PySem.W.mg_none_of X G z_abs⟩
  have TM : TxtM K mg f_take f_of := ⟨TN, PySem.W.mg_none_of X G z_range, PySem.W.mg_none_of X G z_list, PySem.W.mg_none_of X G z_max, PySem.W.mg_none_of X G z_min, PySem.W.mg_of X G a_take, k_take, PySem.W.mg_of X G a_of, k_of⟩
  have TR : TxtR K mg f_odd f_all f_kinds := ⟨PySem.W.mg_none_of X G z_len, PySem.W.mg_none_of X G z_all, PySem.W.mg_none_of X G z_any, PySem.W.mg_none_of X G z_repr, PySem.W.mg_none_of X G z_enumerate, PySem.W.mg_none_of X G z_range, PySem.W.mg_none_of X G z_ValueError, PySem.W.mg_of X G a_odd, k_odd, PySem.W.mg_of X G a_all, k_all, PySem.W.mg_of X G a_kinds, k_kinds⟩
  have TL : TxtL mg K f_pot f_cells f_right := ⟨PySem.W.mg_none_of X G z_all, PySem.W.mg_of X G a_pot, k_pot, PySem.W.mg_of X G a_cells, k_cells, PySem.W.mg_of X G a_right, k_right⟩
  have TE : TxtE K mg (fun j => ([c0, c1, c2, c3, c4, c5, c6, c7, c8, c9, c10, c11, c12, c13, c14, c15, c16, c17, c18, c19, c20, c21, c22, c23, c24, c25, c26, c27, c28] : List Addr).getD j c0) cP f_init _ :=
    { isinst := PySem.W.mg_none_of X G z_isinstance, E := fun j => (EE j).f, EP := EP.f, gP := PySem.W.mg_of X G aC_P, tI := tI, bI := b_init
      inj := fun i j hi hj e => getD_inj nd2.2 hi hj e
      kit := fun i j => (kit_ref (EE i) (EE j)).trans (congrArg some (cont_ref (off j)))
      kitP := fun i => (kit_ref (EE i) EP).trans (congrArg some cont_p)
      kitV := fun i => (kit_ve (EE i)).trans (congrArg some cont_v)
      kitB := fun j => (kit_ref EP (EE j)).trans (congrArg some (cont_b (off j)))
      g00 := PySem.W.mg_of X G aC_0, g01 := PySem.W.mg_of X G aC_1, g02 := PySem.W.mg_of X G aC_2, g03 := PySem.W.mg_of X G aC_3, g04 := PySem.W.mg_of X G aC_4, g05 := PySem.W.mg_of X G aC_5, g06 := PySem.W.mg_of X G aC_6, g07 := PySem.W.mg_of X G aC_7, g08 := PySem.W.mg_of X G aC_8, g09 := PySem.W.mg_of X G aC_9, g10 := PySem.W.mg_of X G aC_10, g11 := PySem.W.mg_of X G aC_11, g12 := PySem.W.mg_of X G aC_12, g13 := PySem.W.mg_of X G aC_13, g14 := PySem.W.mg_of X G aC_14, g15 := PySem.W.mg_of X G aC_15, g16 := PySem.W.mg_of X G aC_16, g17 := PySem.W.mg_of X G aC_17, g18 := PySem.W.mg_of X G aC_18, g19 := PySem.W.mg_of X G aC_19, g20 := PySem.W.mg_of X G aC_20, g21 := PySem.W.mg_of X G aC_21, g22 := PySem.W.mg_of X G aC_22, g23 := PySem.W.mg_of X G aC_23, g24 := PySem.W.mg_of X G aC_24, g25 := PySem.W.mg_of X G aC_25, g26 := PySem.W.mg_of X G aC_26, g27 := PySem.W.mg_of X G aC_27, g28 := PySem.W.mg_of X G aC_28 }
  refine ⟨PySem.W.fnOf "law" "law" (defArgs sLaw) (defBody sLaw) (defScope sLaw) .none kV_law dc_law pm_law an_law cd_law ct_law, fun s v => .of_eq rfl, fun base _ _ => ?_⟩
  have G_init := ok_init (P := l.prog) (w := w) (mg := mg) (base := base) F_init
  have G_pot := ok_pot (P := l.prog) (w := w) (mg := mg) (base := base) F_pot TN
  have G_take := ok_take (P := l.prog) (w := w) (mg := mg) (base := base) F_take TN
  have G_of := ok_of (P := l.prog) (w := w) (base := base) F_of TM G_take b_take
  have G_cells := ok_cells (P := l.prog) (w := w) (base := base) F_cells TM
  have G_odd := ok_odd (P := l.prog) (w := w) (base := base) F_odd TM G_of b_of
  have G_all := ok_all (P := l.prog) (w := w) (base := base) F_all TE G_init
  have G_kinds := ok_kinds (P := l.prog) (w := w) (base := base) F_kinds TE
  have G_right := ok_right (P := l.prog) (w := w) (base := base) F_right TR TE G_init G_odd b_odd G_all b_all G_kinds b_kinds
  exact ok_law F_law TL G_pot b_pot G_cells b_cells G_right b_right
theorem walk {l : PySem.W.OpenLaw} {q : Program} {loose : List Str} {XP : (Str → Option Value) → Heap → Prop} {YP : World → Heap → Prop} {d : DefRec} {K : Params → PySem.W.Frag} (hn : l.most = some 63) (hdf : d.params.defaults = [])
    (hY : ∀ (w : World) (h : Heap), YP w h → (K w.params).In h)
    (F : ∀ (w : World) (mg : Str → Option Value) (fa : Addr) (h : Heap), (K w.params).In h → h.Ns mainGlobals mg → mg d.name = some (.ref fa) →
      ∃ fd : FuncData, (∀ (s : Shared) (u : Value), BindsTo s fd ⟨[u], []⟩ [("_law_script", u)]) ∧ ∀ base : Heap, (K w.params).In base → base.Ns mainGlobals mg → FnG l.prog w (K w.params) mg base CX0 5 fa fd ["_law_script"] (spLaw (K w.params))) :
    PySem.W.WalkO q loose XP YP l.row.toRowW d [] (fun f vs => PySem.call f vs) :=
  Lp.walkG (n := 63) (k := 5) (x := "_law_script") (CX := fun _ => CX0) (sp := fun w => spLaw (K w.params)) hn (by decide) hdf ⟨rfl, by decide, by decide⟩ hY F (fun _ _ a ns hl hb _ hS => ⟨a, ns, rfl, hS, hl, hb, fun _ => rfl⟩) fun _ _ _ _ _ z => z
end K00

open PySem PySem.W PyProof.Rows in
set_option maxRecDepth 100000 in
set_option maxHeartbeats 0 in
theorem PySem.Challenge.cw_factpairs_k00_errors_keep_their_value_holds : PySem.Challenge.rw_factpairs_k00_errors_keep_their_value.Holds := by
  w_on; o_law; k_head; (case hw => w_witness2)
  k_fill
  refine K00.walk (l := PySem.Challenge.rw_factpairs_k00_errors_keep_their_value) rfl rfl (fun w h Y => PySem.W.kIn_of Y) ?F
  case F =>
    intro w mg fa h KX G hmg
    refine' K00.all_mk KX G hmg ?aC_P ?aC_0 ?aC_1 ?aC_2 ?aC_3 ?aC_4 ?aC_5 ?aC_6 ?aC_7 ?aC_8 ?aC_9 ?aC_10 ?aC_11 ?aC_12 ?aC_13 ?aC_14 ?aC_15 ?aC_16 ?aC_17 ?aC_18 ?aC_19 ?aC_20 ?aC_21 ?aC_22 ?aC_23 ?aC_24 ?aC_25 ?aC_26 ?aC_27 ?aC_28 ?a_init ?l_init ?c_init ?k_init ?a_pot ?l_pot ?c_pot ?k_pot ?a_take ?l_take ?c_take ?k_take ?a_of ?l_of ?c_of ?k_of ?a_cells ?l_cells ?c_cells ?k_cells ?a_odd ?l_odd ?c_odd ?k_odd ?a_all ?l_all ?c_all ?k_all ?a_kinds ?l_kinds ?c_kinds ?k_kinds ?a_right ?l_right ?c_right ?k_right ?a_law ?l_law ?c_law ?k_law ?tI ?z_len ?z_int ?z_abs ?z_range ?z_list ?z_max ?z_min ?z_isinstance ?z_all ?z_any ?z_repr ?z_enumerate ?z_ValueError ?EP ?E0 ?E1 ?E2 ?E3 ?E4 ?E5 ?E6 ?E7 ?E8 ?E9 ?E10 ?E11 ?E12 ?E13 ?E14 ?E15 ?E16 ?E17 ?E18 ?E19 ?E20 ?E21 ?E22 ?E23 ?E24 ?E25 ?E26 ?E27 ?E28 ?nd
    (case aC_P => k_is)
    (case aC_0 => k_is)
    (case aC_1 => k_is)
    (case aC_2 => k_is)
    (case aC_3 => k_is)
    (case aC_4 => k_is)
    (case aC_5 => k_is)
    (case aC_6 => k_is)
    (case aC_7 => k_is)
    (case aC_8 => k_is)
    (case aC_9 => k_is)
    (case aC_10 => k_is)
    (case aC_11 => k_is)
    (case aC_12 => k_is)
    (case aC_13 => k_is)
    (case aC_14 => k_is)
    (case aC_15 => k_is)
    (case aC_16 => k_is)
    (case aC_17 => k_is)
    (case aC_18 => k_is)
    (case aC_19 => k_is)
    (case aC_20 => k_is)
    (case aC_21 => k_is)
    (case aC_22 => k_is)
    (case aC_23 => k_is)
    (case aC_24 => k_is)
    (case aC_25 => k_is)
    (case aC_26 => k_is)
    (case aC_27 => k_is)
    (case aC_28 => k_is)
    (case a_init => k_is)
    (case l_init => k_is)
    (case c_init => k_is)
    (case k_init => k_is)
    (case a_pot => k_is)
    (case l_pot => k_is)
    (case c_pot => k_is)
    (case k_pot => k_is)
    (case a_take => k_is)
    (case l_take => k_is)
    (case c_take => k_is)
    (case k_take => k_is)
    (case a_of => k_is)
    (case l_of => k_is)
    (case c_of => k_is)
    (case k_of => k_is)
    (case a_cells => k_is)
    (case l_cells => k_is)
    (case c_cells => k_is)
    (case k_cells => k_is)
    (case a_odd => k_is)
    (case l_odd => k_is)
    (case c_odd => k_is)
    (case k_odd => k_is)
    (case a_all => k_is)
    (case l_all => k_is)
    (case c_all => k_is)
    (case k_all => k_is)
    (case a_kinds => k_is)
    (case l_kinds => k_is)
    (case c_kinds => k_is)
    (case k_kinds => k_is)
    (case a_right => k_is)
    (case l_right => k_is)
    (case c_right => k_is)
    (case k_right => k_is)
    (case a_law => k_is)
    (case l_law => k_is)
    (case c_law => k_is)
    (case k_law => k_is)
    (case tI => k_is)
    (case z_len => k_is)
    (case z_int => k_is)
    (case z_abs => k_is)
    (case z_range => k_is)
    (case z_list => k_is)
    (case z_max => k_is)
    (case z_min => k_is)
    (case z_isinstance => k_is)
    (case z_all => k_is)
    (case z_any => k_is)
    (case z_repr => k_is)
    (case z_enumerate => k_is)
    (case z_ValueError => k_is)
    (case EP => (refine' K00.mkErr K00.veB ?x ?e ?r ?sa ?hg ?hk ?exC ?tyC ?kC ?hd ?ha ?hn ?ht ?hm ?iC ?no; (case x => k_is); (case e => rfl); (case r => decide +kernel); (case sa => k_is); (case hg => k_is); (case hk => k_is); (case exC => k_is); (case tyC => k_is); (case kC => k_is); (case hd => k_is); (case ha => k_is); (case hn => first | k_is | decide +kernel); (case ht => first | k_is | decide +kernel); (case hm => k_is); (case iC => k_is); (case no => k_is)))
    (case E0 => (refine' K00.mkErr _ ?x ?e ?r ?sa ?hg ?hk ?exC ?tyC ?kC ?hd ?ha ?hn ?ht ?hm ?iC ?no; (case x => k_is); (case e => rfl); (case r => decide +kernel); (case sa => k_is); (case hg => k_is); (case hk => k_is); (case exC => k_is); (case tyC => k_is); (case kC => k_is); (case hd => k_is); (case ha => k_is); (case hn => first | k_is | decide +kernel); (case ht => first | k_is | decide +kernel); (case hm => k_is); (case iC => k_is); (case no => k_is)))
    (case E1 => (refine' K00.mkErr _ ?x ?e ?r ?sa ?hg ?hk ?exC ?tyC ?kC ?hd ?ha ?hn ?ht ?hm ?iC ?no; (case x => k_is); (case e => rfl); (case r => decide +kernel); (case sa => k_is); (case hg => k_is); (case hk => k_is); (case exC => k_is); (case tyC => k_is); (case kC => k_is); (case hd => k_is); (case ha => k_is); (case hn => first | k_is | decide +kernel); (case ht => first | k_is | decide +kernel); (case hm => k_is); (case iC => k_is); (case no => k_is)))
    (case E2 => (refine' K00.mkErr _ ?x ?e ?r ?sa ?hg ?hk ?exC ?tyC ?kC ?hd ?ha ?hn ?ht ?hm ?iC ?no; (case x => k_is); (case e => rfl); (case r => decide +kernel); (case sa => k_is); (case hg => k_is); (case hk => k_is); (case exC => k_is); (case tyC => k_is); (case kC => k_is); (case hd => k_is); (case ha => k_is); (case hn => first | k_is | decide +kernel); (case ht => first | k_is | decide +kernel); (case hm => k_is); (case iC => k_is); (case no => k_is)))
    (case E3 => (refine' K00.mkErr _ ?x ?e ?r ?sa ?hg ?hk ?exC ?tyC ?kC ?hd ?ha ?hn ?ht ?hm ?iC ?no; (case x => k_is); (case e => rfl); (case r => decide +kernel); (case sa => k_is); (case hg => k_is); (case hk => k_is); (case exC => k_is); (case tyC => k_is); (case kC => k_is); (case hd => k_is); (case ha => k_is); (case hn => first | k_is | decide +kernel); (case ht => first | k_is | decide +kernel); (case hm => k_is); (case iC => k_is); (case no => k_is)))
    (case E4 => (refine' K00.mkErr _ ?x ?e ?r ?sa ?hg ?hk ?exC ?tyC ?kC ?hd ?ha ?hn ?ht ?hm ?iC ?no; (case x => k_is); (case e => rfl); (case r => decide +kernel); (case sa => k_is); (case hg => k_is); (case hk => k_is); (case exC => k_is); (case tyC => k_is); (case kC => k_is); (case hd => k_is); (case ha => k_is); (case hn => first | k_is | decide +kernel); (case ht => first | k_is | decide +kernel); (case hm => k_is); (case iC => k_is); (case no => k_is)))
    (case E5 => (refine' K00.mkErr _ ?x ?e ?r ?sa ?hg ?hk ?exC ?tyC ?kC ?hd ?ha ?hn ?ht ?hm ?iC ?no; (case x => k_is); (case e => rfl); (case r => decide +kernel); (case sa => k_is); (case hg => k_is); (case hk => k_is); (case exC => k_is); (case tyC => k_is); (case kC => k_is); (case hd => k_is); (case ha => k_is); (case hn => first | k_is | decide +kernel); (case ht => first | k_is | decide +kernel); (case hm => k_is); (case iC => k_is); (case no => k_is)))
    (case E6 => (refine' K00.mkErr _ ?x ?e ?r ?sa ?hg ?hk ?exC ?tyC ?kC ?hd ?ha ?hn ?ht ?hm ?iC ?no; (case x => k_is); (case e => rfl); (case r => decide +kernel); (case sa => k_is); (case hg => k_is); (case hk => k_is); (case exC => k_is); (case tyC => k_is); (case kC => k_is); (case hd => k_is); (case ha => k_is); (case hn => first | k_is | decide +kernel); (case ht => first | k_is | decide +kernel); (case hm => k_is); (case iC => k_is); (case no => k_is)))
    (case E7 => (refine' K00.mkErr _ ?x ?e ?r ?sa ?hg ?hk ?exC ?tyC ?kC ?hd ?ha ?hn ?ht ?hm ?iC ?no; (case x => k_is); (case e => rfl); (case r => decide +kernel); (case sa => k_is); (case hg => k_is); (case hk => k_is); (case exC => k_is); (case tyC => k_is); (case kC => k_is); (case hd => k_is); (case ha => k_is); (case hn => first | k_is | decide +kernel); (case ht => first | k_is | decide +kernel); (case hm => k_is); (case iC => k_is); (case no => k_is)))
    (case E8 => (refine' K00.mkErr _ ?x ?e ?r ?sa ?hg ?hk ?exC ?tyC ?kC ?hd ?ha ?hn ?ht ?hm ?iC ?no; (case x => k_is); (case e => rfl); (case r => decide +kernel); (case sa => k_is); (case hg => k_is); (case hk => k_is); (case exC => k_is); (case tyC => k_is); (case kC => k_is); (case hd => k_is); (case ha => k_is); (case hn => first | k_is | decide +kernel); (case ht => first | k_is | decide +kernel); (case hm => k_is); (case iC => k_is); (case no => k_is)))
    (case E9 => (refine' K00.mkErr _ ?x ?e ?r ?sa ?hg ?hk ?exC ?tyC ?kC ?hd ?ha ?hn ?ht ?hm ?iC ?no; (case x => k_is); (case e => rfl); (case r => decide +kernel); (case sa => k_is); (case hg => k_is); (case hk => k_is); (case exC => k_is); (case tyC => k_is); (case kC => k_is); (case hd => k_is); (case ha => k_is); (case hn => first | k_is | decide +kernel); (case ht => first | k_is | decide +kernel); (case hm => k_is); (case iC => k_is); (case no => k_is)))
    (case E10 => (refine' K00.mkErr _ ?x ?e ?r ?sa ?hg ?hk ?exC ?tyC ?kC ?hd ?ha ?hn ?ht ?hm ?iC ?no; (case x => k_is); (case e => rfl); (case r => decide +kernel); (case sa => k_is); (case hg => k_is); (case hk => k_is); (case exC => k_is); (case tyC => k_is); (case kC => k_is); (case hd => k_is); (case ha => k_is); (case hn => first | k_is | decide +kernel); (case ht => first | k_is | decide +kernel); (case hm => k_is); (case iC => k_is); (case no => k_is)))
    (case E11 => (refine' K00.mkErr _ ?x ?e ?r ?sa ?hg ?hk ?exC ?tyC ?kC ?hd ?ha ?hn ?ht ?hm ?iC ?no; (case x => k_is); (case e => rfl); (case r => decide +kernel); (case sa => k_is); (case hg => k_is); (case hk => k_is); (case exC => k_is); (case tyC => k_is); (case kC => k_is); (case hd => k_is); (case ha => k_is); (case hn => first | k_is | decide +kernel); (case ht => first | k_is | decide +kernel); (case hm => k_is); (case iC => k_is); (case no => k_is)))
    (case E12 => (refine' K00.mkErr _ ?x ?e ?r ?sa ?hg ?hk ?exC ?tyC ?kC ?hd ?ha ?hn ?ht ?hm ?iC ?no; (case x => k_is); (case e => rfl); (case r => decide +kernel); (case sa => k_is); (case hg => k_is); (case hk => k_is); (case exC => k_is); (case tyC => k_is); (case kC => k_is); (case hd => k_is); (case ha => k_is); (case hn => first | k_is | decide +kernel); (case ht => first | k_is | decide +kernel); (case hm => k_is); (case iC => k_is); (case no => k_is)))
    (case E13 => (refine' K00.mkErr _ ?x ?e ?r ?sa ?hg ?hk ?exC ?tyC ?kC ?hd ?ha ?hn ?ht ?hm ?iC ?no; (case x => k_is); (case e => rfl); (case r => decide +kernel); (case sa => k_is); (case hg => k_is); (case hk => k_is); (case exC => k_is); (case tyC => k_is); (case kC => k_is); (case hd => k_is); (case ha => k_is); (case hn => first | k_is | decide +kernel); (case ht => first | k_is | decide +kernel); (case hm => k_is); (case iC => k_is); (case no => k_is)))
    (case E14 => (refine' K00.mkErr _ ?x ?e ?r ?sa ?hg ?hk ?exC ?tyC ?kC ?hd ?ha ?hn ?ht ?hm ?iC ?no; (case x => k_is); (case e => rfl); (case r => decide +kernel); (case sa => k_is); (case hg => k_is); (case hk => k_is); (case exC => k_is); (case tyC => k_is); (case kC => k_is); (case hd => k_is); (case ha => k_is); (case hn => first | k_is | decide +kernel); (case ht => first | k_is | decide +kernel); (case hm => k_is); (case iC => k_is); (case no => k_is)))
    (case E15 => (refine' K00.mkErr _ ?x ?e ?r ?sa ?hg ?hk ?exC ?tyC ?kC ?hd ?ha ?hn ?ht ?hm ?iC ?no; (case x => k_is); (case e => rfl); (case r => decide +kernel); (case sa => k_is); (case hg => k_is); (case hk => k_is); (case exC => k_is); (case tyC => k_is); (case kC => k_is); (case hd => k_is); (case ha => k_is); (case hn => first | k_is | decide +kernel); (case ht => first | k_is | decide +kernel); (case hm => k_is); (case iC => k_is); (case no => k_is)))
    (case E16 => (refine' K00.mkErr _ ?x ?e ?r ?sa ?hg ?hk ?exC ?tyC ?kC ?hd ?ha ?hn ?ht ?hm ?iC ?no; (case x => k_is); (case e => rfl); (case r => decide +kernel); (case sa => k_is); (case hg => k_is); (case hk => k_is); (case exC => k_is); (case tyC => k_is); (case kC => k_is); (case hd => k_is); (case ha => k_is); (case hn => first | k_is | decide +kernel); (case ht => first | k_is | decide +kernel); (case hm => k_is); (case iC => k_is); (case no => k_is)))
    (case E17 => (refine' K00.mkErr _ ?x ?e ?r ?sa ?hg ?hk ?exC ?tyC ?kC ?hd ?ha ?hn ?ht ?hm ?iC ?no; (case x => k_is); (case e => rfl); (case r => decide +kernel); (case sa => k_is); (case hg => k_is); (case hk => k_is); (case exC => k_is); (case tyC => k_is); (case kC => k_is); (case hd => k_is); (case ha => k_is); (case hn => first | k_is | decide +kernel); (case ht => first | k_is | decide +kernel); (case hm => k_is); (case iC => k_is); (case no => k_is)))
    (case E18 => (refine' K00.mkErr _ ?x ?e ?r ?sa ?hg ?hk ?exC ?tyC ?kC ?hd ?ha ?hn ?ht ?hm ?iC ?no; (case x => k_is); (case e => rfl); (case r => decide +kernel); (case sa => k_is); (case hg => k_is); (case hk => k_is); (case exC => k_is); (case tyC => k_is); (case kC => k_is); (case hd => k_is); (case ha => k_is); (case hn => first | k_is | decide +kernel); (case ht => first | k_is | decide +kernel); (case hm => k_is); (case iC => k_is); (case no => k_is)))
    (case E19 => (refine' K00.mkErr _ ?x ?e ?r ?sa ?hg ?hk ?exC ?tyC ?kC ?hd ?ha ?hn ?ht ?hm ?iC ?no; (case x => k_is); (case e => rfl); (case r => decide +kernel); (case sa => k_is); (case hg => k_is); (case hk => k_is); (case exC => k_is); (case tyC => k_is); (case kC => k_is); (case hd => k_is); (case ha => k_is); (case hn => first | k_is | decide +kernel); (case ht => first | k_is | decide +kernel); (case hm => k_is); (case iC => k_is); (case no => k_is)))
    (case E20 => (refine' K00.mkErr _ ?x ?e ?r ?sa ?hg ?hk ?exC ?tyC ?kC ?hd ?ha ?hn ?ht ?hm ?iC ?no; (case x => k_is); (case e => rfl); (case r => decide +kernel); (case sa => k_is); (case hg => k_is); (case hk => k_is); (case exC => k_is); (case tyC => k_is); (case kC => k_is); (case hd => k_is); (case ha => k_is); (case hn => first | k_is | decide +kernel); (case ht => first | k_is | decide +kernel); (case hm => k_is); (case iC => k_is); (case no => k_is)))
    (case E21 => (refine' K00.mkErr _ ?x ?e ?r ?sa ?hg ?hk ?exC ?tyC ?kC ?hd ?ha ?hn ?ht ?hm ?iC ?no; (case x => k_is); (case e => rfl); (case r => decide +kernel); (case sa => k_is); (case hg => k_is); (case hk => k_is); (case exC => k_is); (case tyC => k_is); (case kC => k_is); (case hd => k_is); (case ha => k_is); (case hn => first | k_is | decide +kernel); (case ht => first | k_is | decide +kernel); (case hm => k_is); (case iC => k_is); (case no => k_is)))
    (case E22 => (refine' K00.mkErr _ ?x ?e ?r ?sa ?hg ?hk ?exC ?tyC ?kC ?hd ?ha ?hn ?ht ?hm ?iC ?no; (case x => k_is); (case e => rfl); (case r => decide +kernel); (case sa => k_is); (case hg => k_is); (case hk => k_is); (case exC => k_is); (case tyC => k_is); (case kC => k_is); (case hd => k_is); (case ha => k_is); (case hn => first | k_is | decide +kernel); (case ht => first | k_is | decide +kernel); (case hm => k_is); (case iC => k_is); (case no => k_is)))
    (case E23 => (refine' K00.mkErr _ ?x ?e ?r ?sa ?hg ?hk ?exC ?tyC ?kC ?hd ?ha ?hn ?ht ?hm ?iC ?no; (case x => k_is); (case e => rfl); (case r => decide +kernel); (case sa => k_is); (case hg => k_is); (case hk => k_is); (case exC => k_is); (case tyC => k_is); (case kC => k_is); (case hd => k_is); (case ha => k_is); (case hn => first | k_is | decide +kernel); (case ht => first | k_is | decide +kernel); (case hm => k_is); (case iC => k_is); (case no => k_is)))
    (case E24 => (refine' K00.mkErr _ ?x ?e ?r ?sa ?hg ?hk ?exC ?tyC ?kC ?hd ?ha ?hn ?ht ?hm ?iC ?no; (case x => k_is); (case e => rfl); (case r => decide +kernel); (case sa => k_is); (case hg => k_is); (case hk => k_is); (case exC => k_is); (case tyC => k_is); (case kC => k_is); (case hd => k_is); (case ha => k_is); (case hn => first | k_is | decide +kernel); (case ht => first | k_is | decide +kernel); (case hm => k_is); (case iC => k_is); (case no => k_is)))
    (case E25 => (refine' K00.mkErr _ ?x ?e ?r ?sa ?hg ?hk ?exC ?tyC ?kC ?hd ?ha ?hn ?ht ?hm ?iC ?no; (case x => k_is); (case e => rfl); (case r => decide +kernel); (case sa => k_is); (case hg => k_is); (case hk => k_is); (case exC => k_is); (case tyC => k_is); (case kC => k_is); (case hd => k_is); (case ha => k_is); (case hn => first | k_is | decide +kernel); (case ht => first | k_is | decide +kernel); (case hm => k_is); (case iC => k_is); (case no => k_is)))
    (case E26 => (refine' K00.mkErr _ ?x ?e ?r ?sa ?hg ?hk ?exC ?tyC ?kC ?hd ?ha ?hn ?ht ?hm ?iC ?no; (case x => k_is); (case e => rfl); (case r => decide +kernel); (case sa => k_is); (case hg => k_is); (case hk => k_is); (case exC => k_is); (case tyC => k_is); (case kC => k_is); (case hd => k_is); (case ha => k_is); (case hn => first | k_is | decide +kernel); (case ht => first | k_is | decide +kernel); (case hm => k_is); (case iC => k_is); (case no => k_is)))
    (case E27 => (refine' K00.mkErr _ ?x ?e ?r ?sa ?hg ?hk ?exC ?tyC ?kC ?hd ?ha ?hn ?ht ?hm ?iC ?no; (case x => k_is); (case e => rfl); (case r => decide +kernel); (case sa => k_is); (case hg => k_is); (case hk => k_is); (case exC => k_is); (case tyC => k_is); (case kC => k_is); (case hd => k_is); (case ha => k_is); (case hn => first | k_is | decide +kernel); (case ht => first | k_is | decide +kernel); (case hm => k_is); (case iC => k_is); (case no => k_is)))
    (case E28 => (refine' K00.mkErr _ ?x ?e ?r ?sa ?hg ?hk ?exC ?tyC ?kC ?hd ?ha ?hn ?ht ?hm ?iC ?no; (case x => k_is); (case e => rfl); (case r => decide +kernel); (case sa => k_is); (case hg => k_is); (case hk => k_is); (case exC => k_is); (case tyC => k_is); (case kC => k_is); (case hd => k_is); (case ha => k_is); (case hn => first | k_is | decide +kernel); (case ht => first | k_is | decide +kernel); (case hm => k_is); (case iC => k_is); (case no => k_is)))
    (case nd => decide +kernel)

