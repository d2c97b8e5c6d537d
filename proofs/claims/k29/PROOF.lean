import PyProof.Rows.All
import Wide.All
import OpenK.AllK
import Wide.FinOn
import HandS.ForMost
import HandS.Wide
import HandS.IsInst
import PyProof.FString3
import PyProof.ReprRoads
import PyProof.Rows.StrIntSpec
import PyProof.Rows.RegReprOcc
import HandS.RaiseMore
import HandS.Dict
import PyProof.ReprLen
import PyProof.RowDictHeap
import PyProof.NeKinds
import PyProof.FitsInt
import HandS.TupAny
import PyProof.SumWalkG
import PyProof.WalkInts
import HandS.More
import HandS.Text
import HandS.Walk
import HandS.Zip0
import KE.GoesEnum
import HandS.SortInts
import HandS.ExcInit
import HandS.ExcField
import HandS.ExcIs
import HandS.CallSlots
import HandS.WordsExc
import HandS.TryOnly
import KE.KExcIs
import HandS.Lambda
import HandS.EndTab
import KE.KNest
import HandS.SetKeys
import HandS.WideBits
import HandS.Strs
import PyProof.P3Eq
import HandS.Style
import KE.KRevSl
import HandS.TupMul
import PySem.Challenge.RW_xorbanks_k29_maps_refused
set_option Elab.async false
set_option maxRecDepth 100000
set_option maxHeartbeats 4000000
/-! Rules of my own: powers of great ints, {n:b}, repr of data, defs that know their guards. -/
namespace G
open PySem PySem.Spec PyProof.Rows L2
open PySem.Builtin PySem.Builtin.Str PySem.Builtin.Int PySem.Builtin.Float

def CPowW (i j : Int) : Prop := 0 ≤ j ∧ (Builtin.Int.intBits i : Int) * j ≤ 2 ^ 27
theorem op_powW {X : Cx} : OpR X (binaryOp .Pow) (rI CPowW fun i j => .int (i ^ j.toNat)) :=
  opI fun _ _ _ _ _ _ _ hc q => pow_int hc.1 hc.2 q

/-! ### the binary digits of a number as a text -/
def binL (n : Nat) : List Nat := (Nat.toDigits 2 n).map Char.toNat
def binText (n : Nat) : Str := ⟨(binL n).toArray⟩

theorem binL_ne (n : Nat) : binL n ≠ [] := by
  intro e
  have h := congrArg List.length e
  have h2 := tDigits_len_ge 2 n
  unfold binL at h
  rw [List.length_map] at h
  simp at h
theorem intField_plain {ds : List Nat} {g : Nat} (h : ds ≠ []) : intField' { align := 62, type := some 98 } false [] ds [] g = ⟨ds.toArray⟩ := by
  cases ds with
  | nil => exact absurd rfl h
  | cons d ds =>
    have e : ((-1 : Int) - (0 + 0 + 0) - ((d :: ds).length : Nat)).toNat = 0 := by
      rw [List.length_cons]
      omega
    unfold intField'
    simp
    omega

theorem gives_b (n : Nat) (t u : Tok) : Gives (Builtin.«int.__format__» ⟨[.int (n : Int) t, .str (Str.ofString "b") u], []⟩) (.str (binText n)) := by
  intro prog w A R s hq
  unfold Builtin.«int.__format__»
  have hne : ((Str.ofString "b").length == 0) = false := by decide +kernel
  have hasc : (((Str.ofString "b").cps.toList.drop 1).any (· ≥ 128) || ((Str.ofString "b").cps.getD 0 0 ≥ 128 && !([60, 62, 61, 94] : List Nat).contains ((Str.ofString "b").cps.getD 1 0))) = false := by decide +kernel
  simp only [selfAndOne, noKeywords, Int.intOfSelf, asInt?, asStr?, List.isEmpty_nil, if_true, pure_bind, bind_pure, bind_assoc, hne, hasc, Bool.false_eq_true, if_false,
    show (Value.str (Str.ofString "b") u == Value.none) = false from rfl]
  refine wpAny_bind (wpAny_typeNameOf (T := "str") (typeIs_str _ _ _) (by decide) fun _ => ?_)
  refine wpAny_bind (wpAny_typeNameOfCut_int ?_)
  have hp : ∃ f, parseFormatSpec (Str.ofString "b").cps.toList "int" 62 = .ok f ∧ f = { align := 62, type := some 98 } := ⟨_, rfl, by rfl⟩
  obtain ⟨f, hp, hf⟩ := hp
  rw [hp]
  dsimp only
  subst hf
  rw [if_pos (by decide)]
  show wpAny _ _ (retStr (intField' { align := 62, type := some 98 } (decide ((n : Int) < 0)) [] (binL n) [] 4)) _ _ _
  rw [show decide ((n : Int) < 0) = false from decide_eq_false (by omega), intField_plain (binL_ne n)]
  exact gives_retStr (binText n) prog w A R s hq

/-- {n:b} -/
def tFmtB (te : TE) : TE := fun σ H Q => te σ H fun x H1 => ∃ n : Nat, x = .int (n : Int) ∧ n < 2 ^ 2000 ∧ Q (.str (binText n)) H1
theorem binText_len {n k : Nat} (hk : 1 ≤ k) (h : n < 2 ^ k) : (binText n).length ≤ k := by
  have := toDigits_len_pow (b := 2) (by decide) hk h
  show (binL n).toArray.size ≤ k
  unfold binL
  rw [List.size_toArray, List.length_map]
  exact this
theorem pe_fmtB {X : Cx} {e : Expr} {te : TE} {p1 p2 pos : Pos} (he : PE X e te) :
    PE X (.FormattedValue e (-1) (some (.JoinedStr [.Constant (.str (Str.ofString "b")) 0 p1] p2)) pos) (tFmtB te) := by
  refine ⟨fun pins s σ H Q I h => ?_⟩
  refine wpAny_FormattedValue_spec (thn (he.run pins s σ H _ I h) fun v s1 hv => ?_)
  obtain ⟨x, H1, I1, r1, n, rfl, hn, q⟩ := hv
  obtain ⟨t, rfl⟩ := r1
  refine JoinedStr_one (wpAny_Constant_str ?_)
  refine ⟨_, _, rfl, ?_⟩
  exact wpAny_formatField_spec (by decide +kernel) (fun s' => typeIs_int s' _ _) F.slot_int_format F.entry_int_format F.args_int_format_2 (fun u => gives_b n t u)
    ⟨.str (binText n), H1, (I1.tok _).tok _, ⟨_, rfl⟩, q⟩ (by decide +kernel) (Nat.le_trans (binText_len (k := 2000) (by decide) hn) (by rw [sizeLine_eq]; decide))

/-! ### repr of data: wants that nothing is being shown around -/
theorem call_repr_data {X : Cx} {k : Nat} (hg : X.A.guards = some []) (hr : Room k X.A) :
    CallR X (.builtin "repr") (fun xs H Q => ∃ (p : Addr) (d : PyData), xs = [.ref p] ∧ Dp X.K H (.ref p) d ∧ d.showable = true ∧ d.hasDict = false ∧ d.depth ≤ 60 ∧ d.shown.length ≤ sizeLine ∧ Q (.str d.shown) H) := by
  intro pins s σ H xs us Q I r h
  obtain ⟨p, d, rfl, hd, hs, hn, hdp, hsz, q⟩ := h
  obtain ⟨u, rfl, hu⟩ := vals1 r
  obtain ⟨as, rd⟩ := Dp.reads I d _ u hd hu
  cases (show u = Value.ref p from hu)
  have hU := hr.units
  refine repr_of_reads' rd hs (fun z => by rw [hn] at z; cases z) hg (by omega) (fun b o e => e) (fun h' u tk hk => ?_) hsz
  exact ⟨.str d.shown, H, I.kept (t' := tk) hk, ⟨_, rfl⟩, q⟩

/-! ### f(k = v, ..), no argument by position -/
section
variable {X : Cx} {CX : CXT} {k : Nat} {f : Addr} {fd : FuncData} {ps ks : List Str} {sp : Sp} {E : XK} {x : Str} {p pos : Pos} {kws : List Keyword} {tk : TA} {g : List Value → List Value → List Value} {gV : List V → List V → List V}
theorem pe_callK0 (F : FnOk X.prog X.w X.K X.mg X.base CX k f fd ps sp) (hr : Room k X.A) (hg : Gl X x) (hm : X.mg x = some (.ref f)) (hk : PySem.W.keepIn X.K (.ref f) = true)
    (hb : KBinds X.K fd ps ks g gV) (hx : Passes CX X E) (hkw : PK X kws tk) (hall : (backToKw pos (keywordEach kws X.env)).all (·.1.isSome) = true := by rfl)
    (hks : (backToKw pos (keywordEach kws X.env)).filterMap (·.1) = ks := by rfl) (hdb : (x == ("__debug__" : Str)) = false := by decide)
    (hpl : (backToKw pos (keywordEach kws X.env)).any (·.1.isNone) = false := by rfl) :
    PE X (.Call (.Name x p) [] kws pos) (tCallK sp gV E tNil tk) := by
  refine ⟨fun pins s σ H Q I h => ?_⟩
  refine wpAny_Call_Name_kw (ld_glob I hg hm ?_ hdb)
  refine PySem.W.callWith_KW0 (h₀ := X.base) I.ok.mod.kin hk hall (thn (hkw.run pos pins s σ H _ I h) fun ws s2 ⟨zs, H2, I2, rz, q2⟩ => ⟨I2.kIn, ?_⟩) hpl
  rw [hks]
  exact run_fnk F hr hb hx I2 .nil rz q2
end

/-! ### a def of which it is known that nothing is being shown around -/
structure FnG (P : Program) (w : World) (K : PySem.W.Frag) (mg : Str → Option Value) (base : Heap) (k : Nat) (f : Addr) (fd : FuncData) (ps : List Str) (sp : Sp) : Prop where
  len : ∀ vs H Q E, sp vs H Q E → vs.length = ps.length
  run : ∀ (A : Around) (outer : List Env) (s : Shared) (H : Hp) (args : Args) (us : List Value) (vs : List V) (Q : VK) (E : XK), A.guards = some [] → Room k A → Env0 P w K mg base A outer s H →
    BindsTo s fd args (ps.zip us) → Vals vs us → sp vs H Q E → codeAny (model P w) A (.call (.ref f) args) (CR CX0 outer P w H s Q E) s
end G
set_option Elab.async false
set_option maxRecDepth 100000
set_option maxHeartbeats 4000000
namespace G
open PySem PySem.Spec PyProof.Rows L2
section
variable {P : Program} {w : World} {K : PySem.W.Frag} {mg : Str → Option Value} {base : Heap}
theorem FnG.mono {j k : Nat} {f : Addr} {fd : FuncData} {ps : List Str} {sp : Sp} (F : FnG P w K mg base j f fd ps sp) (h : j ≤ k) : FnG P w K mg base k f fd ps sp :=
  ⟨F.len, fun A outer s H args us vs Q E hg hr => F.run A outer s H args us vs Q E hg (hr.mono h)⟩
/-- a def of the text, by its body -/
theorem okG {x qual : Str} {st : Stmt} {f : Addr} {fd : FuncData} {N ps : List Str} {k : Nat} {sp : Sp} (F : Fun K x qual st f fd) (S : FnScope N ps (defScope st)) (len : ∀ vs H Q E, sp vs H Q E → vs.length = ps.length)
    (body : ∀ (cdv : Value) (A : Around) (outer : List Env) (s : Shared) (H : Hp) (vs : List V) (Q : VK) (E : XK), A.guards = some [] → Room k (A.deeper (envOfC qual (defScope st) s.heap.objs.size f cdv)) → sp vs H Q E →
      ∃ t, PSs (cxOf CX0 P w K mg base N qual (defScope st) f cdv A outer s H E).nox (defBody st) t ∧ t { nx := fun _ H' => Q .non H', rt := Q } (start N vs) H) :
    FnG P w K mg base (k + 1) f fd ps sp := by
  obtain ⟨oc, od, kV, doc, pm, an, cdv, ct, osl, efd, lk, hcd⟩ := F.ex
  subst efd
  refine ⟨len, fun A outer s H args us vs Q E hg hr e0 hb r hsp => ?_⟩
  refine Att.call_fn (e0.mod.kin.keeps fun b o z => (e0.bs b o z).1) (e0.mod.nolimit.keeps fun b o z => (e0.bs b o z).1) lk hcd hr.depth hb ?_ (fun s1 x => ?_) S.co S.gen S.kind
  · rw [List.all_eq_true]
    rintro ⟨n, v⟩ hy
    rcases S.par n (List.of_mem_zip hy).1 with q | q
    · show (_ == _ || _) = true
      rw [q]
      rfl
    · show (_ || _ == _) = true
      rw [q]
      rfl
  · obtain ⟨t, ht, hq⟩ := body cdv A outer s H vs Q E hg (hr.deeper _) hsp
    have I := inv_start (CX := CX0) (E := E) S hr.hd e0 (len _ _ _ _ hsp) r x
    refine wpAny_mono (ht.nox.run [] s1 (start N vs) H _ I hq) (fun fl s' hs => ?_) fun e s' hs => hs
    cases fl with
    | ret u =>
      obtain ⟨v, σ', H', J, rv, q⟩ := hs
      exact ⟨v, H', J.os, J.bare, J.base, J.hok, rv, q⟩
    | next =>
      obtain ⟨σ', H', J, q⟩ := hs
      exact ⟨V.non, H', J.os, J.bare, J.base, J.hok, rfl, q⟩
    | brk =>
      obtain ⟨_, _, _, q⟩ := hs
      exact False.elim q
    | cont =>
      obtain ⟨_, _, _, q⟩ := hs
      exact False.elim q
/-- a def that does not mind -/
theorem FnG.of {k : Nat} {f : Addr} {fd : FuncData} {ps : List Str} {sp : Sp} (F : FnOk P w K mg base CX0 k f fd ps sp) : FnG P w K mg base k f fd ps sp :=
  ⟨F.len, fun A outer s H args us vs Q E _ => F.run A outer s H args us vs Q E⟩
end
section
variable {X : Cx} {k : Nat} {f : Addr} {fd : FuncData} {ps : List Str} {sp : Sp} {dvs : List V} {ds : List Value} {x : Str} {p pos : Pos} {e : Expr} {es : List Expr} {t : TA}
theorem pe_callG (F : FnG X.prog X.w X.K X.mg X.base k f fd ps sp) (hgu : X.A.guards = some []) (hr : Room k X.A) (hg : Gl X x) (hm : X.mg x = some (.ref f)) (hk : PySem.W.keepIn X.K (.ref f) = true) (hb : Binds X.K fd ps ds) (hd : Vals dvs ds)
    (ha : PA X (e :: es) t) (hdb : (x == ("__debug__" : Str)) = false := by decide) (he : starEach (e :: es) X.env = (false, eval e X.env) :: starEach es X.env := by rfl)
    (hpl : (backTo pos (starEach es X.env)).any (·.1) = false := by rfl) : PE X (.Call (.Name x p) (e :: es) [] pos) (tCall sp dvs E0 t) := by
  refine ⟨fun pins s σ H Q I h => wpAny_Call_Name_kw (ld_glob I hg hm ?_ hdb)⟩
  refine PySem.W.callWith_K (h₀ := X.base) I.ok.mod.kin hk (thn (ha.run pos pins s σ H _ I h) fun us s1 ⟨vs, H1, I1, r, q⟩ => ⟨I1.kIn, ?_⟩) he hpl
  have r2 : Vals (vs ++ dvs) (us ++ ds) := r.append hd
  refine wpAny_call (codeAny_mono (F.run X.A X.stack s1 H1 ⟨us, []⟩ (us ++ ds) (vs ++ dvs) Q E0 hgu hr I1.env0 (hb s1 us I1.kIn (r2.length.symm.trans (F.len _ _ _ _ q))) r2 q) fun r s' hq => ?_)
  match r, hq with
  | .ok (.ret u), hq => exact I1.after hq
end
/-! ### the law's own call -/
/-- what is tracked ahead of the law: the script, where it is none of the module's own objects -/
def scr (K : PySem.W.Frag) (a : Addr) (vs : List Value) (ns : List Int) : Hp := fun b => if b = a ∧ K.lookup a = none then some (.frz { cls := .type "list", data := .seq vs.toArray } (.lst (ns.map V.int))) else none
theorem scr_or (K : PySem.W.Frag) (a : Addr) (vs : List Value) (ns : List Int) (b : Addr) :
    scr K a vs ns b = none ∨ (b = a ∧ K.lookup a = none ∧ scr K a vs ns b = some (.frz { cls := .type "list", data := .seq vs.toArray } (.lst (ns.map V.int)))) := by
  by_cases h : b = a ∧ K.lookup a = none
  · exact .inr ⟨h.1, h.2, if_pos h⟩
  · exact .inl (if_neg h)
section
variable {P : Program} {w : World} {K : PySem.W.Frag} {mg mb : Str → Option Value} {k : Nat} {fa a : Addr} {fd : FuncData} {x : Str} {sp : Sp} {s₁ : Shared} {vs : List Value} {ns : List Int}
theorem law_runs (KX : K.In s₁.heap) (hns : s₁.heap.Ns mainGlobals mg) (hb : s₁.heap.Ns builtinsNs mb) (hbb : ∀ x : Str, x ≠ "__name__" → mb x = bootBuiltins x) (hlim : s₁.heap.NoLimit) (hg : s₁.gens = #[])
    (ha : s₁.heap.get? a = some { cls := .type "list", data := .seq vs.toArray }) (hi : IntsAre vs ns) (hl : ns.length ≤ sizeLine) (hr : Room k callerA)
    (F : ∀ base : Heap, K.In base → base.Ns mainGlobals mg → FnG P w K mg base k fa fd [x] sp) (hbind : ∀ (s : Shared) (u : Value), BindsTo s fd ⟨[u], []⟩ [(x, u)])
    (hsp : ∀ H : Hp, SqL K H a (ns.map V.int) → sp [.ref a] H (fun v _ => v = .bl true) fun _ _ _ => False) :
    codeAny (model P w) callerA (.call (.ref fa) ⟨[.ref a], []⟩) (fun r s' => r = .ok (.ret (.bool true)) ∧ OldK s₁.heap s'.heap ∧ s'.os = s₁.os ∧ AllBare s'.gens) s₁ := by
  have tell := scr_or K a vs ns
  have rv := vals_ints hi
  have sees : SqL K (scr K a vs ns) a (ns.map V.int) := by
    cases hk : K.lookup a with
    | none => exact .inl (.inr ⟨_, if_pos ⟨rfl, hk⟩⟩)
    | some o =>
      have e := ha.symm.trans (KX a o hk)
      cases e
      exact .inr ⟨_, vs.toArray, _, hk, rfl, rfl, rfl, by rw [List.size_toArray, hi.length]; exact hl, by simpa using rv⟩
  have okH : HOk P w (scr K a vs ns) s₁.heap := fun b u z => by
    rcases tell b with q | ⟨rfl, _, q⟩
    · cases q.symm.trans z
    · cases q.symm.trans z
      exact ⟨ha, by rw [List.length_map]; exact hl, vs, _, rv, ha⟩
  have low : ∀ {b : Addr} {m : Str → Option Value}, s₁.heap.Ns b m → (hidT s₁.heap (scr K a vs ns)).Ns b m := by
    rintro b m ⟨o, es, ep, e, d, r⟩
    refine ⟨o, es, ep, hidT_get e ?_, d, r⟩
    rcases tell b with q | ⟨rfl, _, _⟩
    · exact q
    · cases ha.symm.trans e
      cases d
  have lowK : K.In (hidT s₁.heap (scr K a vs ns)) := fun b o e => hidT_get (KX b o e) (by
    rcases tell b with q | ⟨rfl, z, _⟩
    · exact q
    · cases z.symm.trans e)
  obtain ⟨mc, c1, c2⟩ := hlim
  have e0 : Env0 P w K mg (hidT s₁.heap (scr K a vs ns)) callerA [] s₁ (scr K a vs ns) :=
    { frames := rfl, mod := ⟨lowK, low hns, ⟨mb, low hb, hbb⟩, ⟨mc, low c1, c2⟩⟩, bs := fun b o e => of_hidT e, bsz := Nat.le_of_eq (hidT_size _ _), funs := trivial,
      frf := fun b z => (List.not_mem_nil (show b ∈ ([] : List Addr) from z)).elim, hok := okH, bare := .of_eq hg }
  refine codeAny_mono ((F _ lowK (low hns)).run callerA [] s₁ _ ⟨[.ref a], []⟩ [.ref a] [.ref a] _ _ rfl hr e0 (hbind s₁ (.ref a)) (.cons rfl .nil) (hsp _ sees)) fun r s' h => ?_
  match r, h with
  | .ok (.ret u), ⟨v, H', os, bare, un, hok', r', q⟩ =>
    subst q
    cases (show u = Value.bool true from r')
    refine ⟨rfl, OldK.of_keep fun b o e => ?_, os, bare⟩
    rcases tell b with z | ⟨rfl, _, z⟩
    · exact un.keep b o e z (fun z => List.not_mem_nil (show b ∈ ([] : List Addr) from z)) List.not_mem_nil
    · cases ha.symm.trans e
      exact (hok' b _ (un.frzs b _ _ z)).1
end
theorem walk_G {l : PySem.W.OpenLaw} {n k : Nat} {q : Program} {loose : List Str} {XP : (Str → Option Value) → Heap → Prop} {YP : World → Heap → Prop} {d : DefRec} {K : Params → PySem.W.Frag} {sp : PySem.W.Frag → Sp} {x : Str}
    (hn : l.most = some n) (hn2 : n ≤ sizeLine) (hdf : d.params.defaults = []) (hr : Room k callerA) (hY : ∀ (w : World) (h : Heap), YP w h → (K w.params).In h)
    (F : ∀ (w : World) (mg : Str → Option Value) (fa : Addr) (h : Heap), (K w.params).In h → h.Ns mainGlobals mg → mg d.name = some (.ref fa) →
      ∃ fd : FuncData, (∀ (s : Shared) (u : Value), BindsTo s fd ⟨[u], []⟩ [(x, u)]) ∧ ∀ base : Heap, (K w.params).In base → base.Ns mainGlobals mg → FnG l.prog w (K w.params) mg base k fa fd [x] (sp (K w.params)))
    (hsp : ∀ (K : PySem.W.Frag) (H : Hp) (a : Addr) (ns : List Int), ns.length ≤ n → SqL K H a (ns.map V.int) → sp K [.ref a] H (fun v _ => v = .bl true) fun _ _ _ => False) :
    PySem.W.WalkO q loose XP YP l.row.toRowW d [] (fun f vs => PySem.call f vs) := by
  refine Att.attach_call hn hdf fun w s₀ s₁ mg mb fa o pm cd doc a vs ns G Y ho hd hcd hmg hobj hints hlen hg => ?_
  obtain ⟨fd, hb, hF⟩ := F w mg fa _ (hY w _ Y) G.T.g hmg
  exact law_runs (hY w _ Y) G.T.g G.T.b G.T.builtins G.T.nolimit hg hobj hints (Nat.le_trans hlen hn2) hr hF hb fun H hS => hsp _ H a ns hlen hS
end G
set_option Elab.async false
set_option maxRecDepth 100000
set_option maxHeartbeats 4000000
/-! any value: its data, as it stands in the heap at addresses that are allowed; shown -/
namespace G
open PySem PySem.Spec PyProof.Rows L2
def kD : Key → PyData
  | .inl i => .int i
  | .inr x => .str x
mutual
inductive Dv (N : Addr → Prop) (H : Hp) : V → PyData → Prop
  | non : Dv N H .non .none
  | bl (x : Bool) : Dv N H (.bl x) (.bool x)
  | int (i : Int) : Dv N H (.int i) (.int i)
  | str (x : Str) : Dv N H (.str x) (.str x)
  | lst {a : Addr} {xs : List V} {ds : List PyData} : N a → a ≠ sysModules → H a = some (.lst xs) → DvAll N H xs ds → Dv N H (.ref a) (.list ds)
  | tup {a : Addr} {xs : List V} {ds : List PyData} : N a → H a = some (.tup xs) → DvAll N H xs ds → Dv N H (.ref a) (.tuple ds)
  | dic {a : Addr} {kvs : List (Key × V)} {D : List (PyData × PyData)} : N a → H a = some (.dK kvs) → DvKv N H kvs D → Dv N H (.ref a) (.dict D)
inductive DvAll (N : Addr → Prop) (H : Hp) : List V → List PyData → Prop
  | nil : DvAll N H [] []
  | cons {v : V} {vs : List V} {d : PyData} {ds : List PyData} : Dv N H v d → DvAll N H vs ds → DvAll N H (v :: vs) (d :: ds)
inductive DvKv (N : Addr → Prop) (H : Hp) : List (Key × V) → List (PyData × PyData) → Prop
  | nil : DvKv N H [] []
  | cons {k : Key} {v : V} {kvs : List (Key × V)} {d : PyData} {D : List (PyData × PyData)} : Dv N H v d → DvKv N H kvs D → DvKv N H ((k, v) :: kvs) ((kD k, d) :: D)
end
/-- what data do not stand at may change; tables may change -/
def Keeps (N : Addr → Prop) (H H' : Hp) : Prop := ∀ c u, N c → (∀ ps, u ≠ .tbl ps) → H c = some u → H' c = some u
section
variable {N M : Addr → Prop} {H H' : Hp}
mutual
theorem Dv.go (k : ∀ c u, N c → (∀ ps, u ≠ .tbl ps) → H c = some u → M c ∧ H' c = some u) : ∀ (d : PyData) (v : V), Dv N H v d → Dv M H' v d
  | .none, _, .non => .non
  | .bool _, _, .bl x => .bl x
  | .int _, _, .int i => .int i
  | .str _, _, .str x => .str x
  | .list ds, _, .lst n y h a => by
    obtain ⟨m, h'⟩ := k _ _ n (fun ps z => by cases z) h
    exact .lst m y h' (DvAll.go k ds _ a)
  | .tuple ds, _, .tup n h a => by
    obtain ⟨m, h'⟩ := k _ _ n (fun ps z => by cases z) h
    exact .tup m h' (DvAll.go k ds _ a)
  | .dict D, _, .dic n h a => by
    obtain ⟨m, h'⟩ := k _ _ n (fun ps z => by cases z) h
    exact .dic m h' (DvKv.go k D _ a)
theorem DvAll.go (k : ∀ c u, N c → (∀ ps, u ≠ .tbl ps) → H c = some u → M c ∧ H' c = some u) : ∀ (ds : List PyData) (vs : List V), DvAll N H vs ds → DvAll M H' vs ds
  | [], _, .nil => .nil
  | d :: ds, _, .cons a b => .cons (Dv.go k d _ a) (DvAll.go k ds _ b)
theorem DvKv.go (k : ∀ c u, N c → (∀ ps, u ≠ .tbl ps) → H c = some u → M c ∧ H' c = some u) : ∀ (D : List (PyData × PyData)) (kvs : List (Key × V)), DvKv N H kvs D → DvKv M H' kvs D
  | [], _, .nil => .nil
  | (_, d) :: D, _, .cons a b => .cons (Dv.go k d _ a) (DvKv.go k D _ b)
end
theorem Dv.keep {v : V} {d : PyData} (h : Dv N H v d) (k : Keeps N H H') : Dv N H' v d := Dv.go (fun c u n t e => ⟨n, k c u n t e⟩) d v h
theorem DvAll.keep {vs : List V} {ds : List PyData} (h : DvAll N H vs ds) (k : Keeps N H H') : DvAll N H' vs ds := DvAll.go (fun c u n t e => ⟨n, k c u n t e⟩) ds vs h
theorem Dv.same {v : V} {d : PyData} (h : Dv N H v d) (k : Same H H') : Dv N H' v d := h.keep fun c u _ _ e => k c u e
theorem DvAll.same {vs : List V} {ds : List PyData} (h : DvAll N H vs ds) (k : Same H H') : DvAll N H' vs ds := h.keep fun c u _ _ e => k c u e
theorem Dv.to {v : V} {d : PyData} (h : Dv N H v d) (k : ∀ c u, H c = some u → N c → M c) : Dv M H v d := Dv.go (fun c u n _ e => ⟨k c u e n, e⟩) d v h
theorem DvAll.to {vs : List V} {ds : List PyData} (h : DvAll N H vs ds) (k : ∀ c u, H c = some u → N c → M c) : DvAll M H vs ds := DvAll.go (fun c u n _ e => ⟨k c u e n, e⟩) ds vs h
theorem DvAll.at {vs : List V} {ds : List PyData} (h : DvAll N H vs ds) : ∀ {i : Nat} {v : V}, vs[i]? = some v → ∃ d, ds[i]? = some d ∧ Dv N H v d := by
  have key : ∀ (ds : List PyData) (vs : List V), DvAll N H vs ds → ∀ {i : Nat} {v : V}, vs[i]? = some v → ∃ d, ds[i]? = some d ∧ Dv N H v d := by
    intro ds
    induction ds with
    | nil =>
      intro vs h i v e
      cases h
      cases i <;> cases e
    | cons d ds ih =>
      intro vs h i v e
      cases h with
      | cons a b =>
        cases i with
        | zero =>
          cases e
          exact ⟨d, rfl, a⟩
        | succ i => exact ih _ b e
  exact fun {i v} e => key ds vs h e
theorem DvAll.len {vs : List V} {ds : List PyData} (h : DvAll N H vs ds) : vs.length = ds.length := by
  have key : ∀ (ds : List PyData) (vs : List V), DvAll N H vs ds → vs.length = ds.length := by
    intro ds
    induction ds with
    | nil =>
      intro vs h
      cases h
      rfl
    | cons d ds ih =>
      intro vs h
      cases h with
      | cons a b => rw [List.length_cons, List.length_cons, ih _ b]
  exact key ds vs h
theorem DvAll.app {vs ws : List V} {ds es : List PyData} (h : DvAll N H vs ds) (g : DvAll N H ws es) : DvAll N H (vs ++ ws) (ds ++ es) := by
  have key : ∀ (ds : List PyData) (vs : List V), DvAll N H vs ds → DvAll N H (vs ++ ws) (ds ++ es) := by
    intro ds
    induction ds with
    | nil =>
      intro vs h
      cases h
      exact g
    | cons d ds ih =>
      intro vs h
      cases h with
      | cons a b => exact .cons a (ih _ b)
  exact key ds vs h
end
section
variable {X : Cx} {pins : List (Addr × Obj)} {σ : L2.St} {H : Hp} {s : Shared} {N : Addr → Prop}
theorem reads_eq {h : Heap} {u v : Value} {d : PyData} {as : List Addr} (e : u = v) (r : Reads h v d as) : Reads h u d as := e ▸ r
theorem reads_key {k : Key} {v : Value} {P : Program} {w : World} {h : Heap} (e : (mixKind P w).is k v = true) : Reads h v (kD k) [] := by
  rcases keyIs_shape e with ⟨i, t, rfl, rfl⟩ | ⟨x, t, rfl, rfl⟩
  · exact .int i t
  · exact .str x t
mutual
theorem Dv.reads (I : L2.Inv X pins σ H s) : ∀ (d : PyData) (v : V) (u : Value), Dv N H v d → RelV v u → ∃ as, Reads s.heap u d as ∧ sysModules ∉ as
  | .none, _, _, .non, r => by
    cases r
    exact ⟨_, Reads.none, by simp⟩
  | .bool _, _, _, .bl x, r => by
    cases r
    exact ⟨_, Reads.bool x, by simp⟩
  | .int _, _, _, .int i, r => by
    obtain ⟨t, rfl⟩ := r
    exact ⟨_, Reads.int i t, by simp⟩
  | .str _, _, _, .str x, r => by
    obtain ⟨t, rfl⟩ := r
    exact ⟨_, Reads.str x t, by simp⟩
  | .list ds, _, _, .lst _ y h a, r => by
    cases r
    obtain ⟨_, its, n, rv, e⟩ := (show ObjOk X.prog X.w H s.heap _ (.lst _) from I.hok _ _ h)
    obtain ⟨as, hr, hn⟩ := DvAll.reads I ds _ its a rv
    exact ⟨_, Reads.list e rfl rfl hr, fun z => (List.mem_cons.mp z).elim (fun z => y z.symm) hn⟩
  | .tuple ds, _, _, .tup _ h a, r => by
    cases r
    obtain ⟨_, its, rv, o, h1, h2, n, h3⟩ := (show ObjOk X.prog X.w H s.heap _ (.tup _) from I.hok _ _ h)
    obtain ⟨as, hr, hn⟩ := DvAll.reads I ds _ its a rv
    exact ⟨_, Reads.tuple h1 h2 h3 hr, hn⟩
  | .dict D, _, _, .dic _ h a, r => by
    cases r
    obtain ⟨_, y, vs, rv, o, es, ep, h1, h2, h3, _, ps, _⟩ := (show ObjOk X.prog X.w H s.heap _ (.dK _) from I.hok _ _ h)
    obtain ⟨as, bs, q1, q2, n1, n2⟩ := DvKv.reads I D _ vs es.toList a rv ps
    exact ⟨_, Reads.dict h1 h2.1 h3 q1 q2, fun z => by
      rcases List.mem_append.mp z with z | z
      · rcases List.mem_cons.mp z with z | z
        · exact beq_eq_false_iff_ne.mp y z.symm
        · exact n1 z
      · exact n2 z⟩
theorem DvAll.reads (I : L2.Inv X pins σ H s) : ∀ (ds : List PyData) (vs : List V) (us : List Value), DvAll N H vs ds → Vals vs us → ∃ as, ReadsAll s.heap us ds as ∧ sysModules ∉ as
  | [], _, _, .nil, .nil => ⟨_, ReadsAll.nil, by simp⟩
  | d :: ds, _, _, .cons a b, .cons r1 r2 => by
    obtain ⟨as, q1, n1⟩ := Dv.reads I d _ _ a r1
    obtain ⟨bs, q2, n2⟩ := DvAll.reads I ds _ _ b r2
    exact ⟨_, ReadsAll.cons q1 q2, fun z => (List.mem_append.mp z).elim n1 n2⟩
theorem DvKv.reads (I : L2.Inv X pins σ H s) : ∀ (D : List (PyData × PyData)) (kvs : List (Key × V)) (vs : List (Key × Value)) (es : List DictEntry), DvKv N H kvs D → KV kvs vs → Pairs (mixKind X.prog X.w) es vs →
    ∃ as bs, ReadsAll s.heap (es.map (·.key)) (D.map (·.1)) as ∧ ReadsAll s.heap (es.map (·.val)) (D.map (·.2)) bs ∧ sysModules ∉ as ∧ sysModules ∉ bs
  | [], _, _, _, .nil, .nil, .nil => ⟨_, _, ReadsAll.nil, ReadsAll.nil, by simp, by simp⟩
  | (_, d) :: D, _, _, _, .cons a b, .cons r1 r2, .cons e1 e2 ps => by
    obtain ⟨k1, r1⟩ := r1
    obtain ⟨as, q1, n1⟩ := Dv.reads I d _ _ a r1
    obtain ⟨ks, bs, p1, p2, m1, m2⟩ := DvKv.reads I D _ _ _ b r2 ps
    refine ⟨_, _, ReadsAll.cons (reads_key (k1 ▸ e1)) p1, ReadsAll.cons (reads_eq e2 q1) p2, fun z => ?_, fun z => (List.mem_append.mp z).elim n1 m2⟩
    rw [List.nil_append] at z
    exact m1 z
end
end
section
variable {X : Cx}
/-- repr of any value: nothing is being shown around -/
def rRep : List V → Hp → VK → Prop := fun xs H Q => ∃ (N : Addr → Prop) (v : V) (d : PyData), xs = [v] ∧ Dv N H v d ∧ d.showable = true ∧ d.depth ≤ 60 ∧ d.shown.length ≤ sizeLine ∧ Q (.str d.shown) H
theorem call_repr_any {k : Nat} (hg : X.A.guards = some []) (hr : Room k X.A) : CallR X (.builtin "repr") rRep := by
  intro pins s σ H xs us Q I r h
  obtain ⟨N, v, d, rfl, hd, hs, hdp, hsz, q⟩ := h
  obtain ⟨u, rfl, hu⟩ := vals1 r
  obtain ⟨as, rd, hn⟩ := Dv.reads I d _ u hd hu
  have hU := hr.units
  have fin : ∀ a, u = .ref a → wpAny (model X.prog X.w) X.A (call (.builtin "repr") [u]) (EP X pins σ Q) X.xe s := fun a e => by
    subst e
    refine repr_of_reads' rd hs (fun _ => hn) hg (by omega) (fun b o e => e) (fun h' u tk hk => ?_) hsz
    exact ⟨.str d.shown, H, I.kept (t' := tk) hk, ⟨_, rfl⟩, q⟩
  cases hd with
  | non =>
    cases hu
    exact PySem.P.repr_of_none ⟨.str _, H, I.tok _, ⟨_, rfl⟩, q⟩
  | bl x =>
    cases hu
    exact PySem.P.repr_of_bool ⟨.str _, H, I.tok _, ⟨_, rfl⟩, q⟩
  | int i =>
    obtain ⟨t, rfl⟩ := hu
    exact PySem.P.repr_of_int (of_decide_eq_true hs) ⟨.str _, H, I.tok _, ⟨_, rfl⟩, q⟩
  | str x =>
    obtain ⟨t, rfl⟩ := hu
    exact PySem.P.repr_of_str ⟨.str _, H, I.tok _, ⟨_, rfl⟩, q⟩ hsz
  | lst _ _ _ _ => exact fin _ hu
  | tup _ _ _ => exact fin _ hu
  | dic _ _ _ => exact fin _ hu
/-! ### lists that are data: not where the modules stand -/
def tLstS (t : TA) : TE := fun σ H Q => t σ H fun xs H1 => xs.length ≤ sizeLine ∧ ∀ p, H1 p = none → p ≠ sysModules → Q (.ref p) (upd H1 p (.lst xs))
theorem pe_lstS {es : List Expr} {t : TA} {pos : Pos} (hh : PA X es t) : PE X (.List es pos) (tLstS t) :=
  ⟨fun pn s σ H Q I w => wpAny_List_spliced (thn (hh.run pos pn s σ H _ I w) fun vs st ⟨ys, G, J, rel, len, w1⟩ => ⟨by have := rel.length; omega, by
    have frs := J.hok.fresh (Nat.le_refl st.heap.objs.size)
    exact ⟨.ref st.heap.objs.size, upd G _ (.lst ys), J.laid (t' := st.toks) (fun _ _ e => Heap.get?_push_of_some _ e) (Nat.le_refl _) ⟨len, vs, 0, rel, Heap.get?_push_size _ rfl⟩, rfl, w1 _ frs (Nat.ne_of_gt J.big)⟩⟩)⟩
def rListS (K : PySem.W.Frag) : List V → Hp → VK → Prop := fun xs H Q => ∃ (p : Addr) (ys : List V), xs = [.ref p] ∧ SqT K H p ys ∧ ∀ l, H l = none → l ≠ sysModules → Q (.ref l) (upd H l (.lst ys))
theorem call_listS : CallR X (.type "list") (rListS X.K) := by
  intro pn s σ H xs us Q I r w
  obtain ⟨p, ys, rfl, hq, q⟩ := w
  obtain ⟨u, rfl, rx⟩ := vals1 r
  cases rx
  obtain ⟨its, rel, pl, hz⟩ := I.tuple hq
  have len := rel.length
  obtain ⟨o, ho, hc, n, hd⟩ := pl
  refine call_list_seq p (.inr rfl) ho hc hd (fun g c kp e => ?_) (by rw [List.size_toArray]; omega)
  exact ⟨.ref s.heap.objs.size, _, I.laid (t' := s.toks) kp (Nat.le_refl _) (show ObjOk X.prog X.w _ g _ (.lst ys) from ⟨hz, its, c, rel, e⟩), rfl, q _ (I.hok.fresh (Nat.le_refl _)) (Nat.ne_of_gt I.big)⟩
end
end G
set_option Elab.async false
set_option maxRecDepth 100000
set_option maxHeartbeats 4000000
/-! small data: how great their ints, how deep, how heavy; what is shown of them -/
namespace G
open PySem PySem.Spec PyProof.Rows L2
mutual
def sm (m : Nat) : PyData → Bool
  | .none | .bool _ => true
  | .int i => decide (i.natAbs.log2 < m)
  | .str x => x.cps.toList.all fun c => decide (c < 1114112)
  | .list xs | .tuple xs => smAll m xs
  | .dict D => smKv m D
def smAll (m : Nat) : List PyData → Bool
  | [] => true
  | x :: xs => sm m x && smAll m xs
def smKv (m : Nat) : List (PyData × PyData) → Bool
  | [] => true
  | (k, v) :: r => sm m k && (sm m v && smKv m r)
end
mutual
theorem sm_mono {m m' : Nat} (h : m ≤ m') : ∀ d, sm m d = true → sm m' d = true
  | .none, _ => rfl
  | .bool _, _ => rfl
  | .int i, e => decide_eq_true (Nat.lt_of_lt_of_le (of_decide_eq_true e) h)
  | .str _, e => e
  | .list xs, e => smAll_mono h xs e
  | .tuple xs, e => smAll_mono h xs e
  | .dict D, e => smKv_mono h D e
theorem smAll_mono {m m' : Nat} (h : m ≤ m') : ∀ d, smAll m d = true → smAll m' d = true
  | [], _ => rfl
  | x :: xs, e => by
    obtain ⟨a, b⟩ := Bool.and_eq_true_iff.mp e
    exact Bool.and_eq_true_iff.mpr ⟨sm_mono h x a, smAll_mono h xs b⟩
theorem smKv_mono {m m' : Nat} (h : m ≤ m') : ∀ d, smKv m d = true → smKv m' d = true
  | [], _ => rfl
  | (k, v) :: xs, e => by
    obtain ⟨a, b⟩ := Bool.and_eq_true_iff.mp e
    obtain ⟨b, c⟩ := Bool.and_eq_true_iff.mp b
    exact Bool.and_eq_true_iff.mpr ⟨sm_mono h k a, Bool.and_eq_true_iff.mpr ⟨sm_mono h v b, smKv_mono h xs c⟩⟩
end
mutual
theorem sm_shows {m : Nat} (hm : m ≤ 298) : ∀ d, sm m d = true → d.showable = true ∧ d.leavesShort 300 = true
  | .none, _ => ⟨rfl, rfl⟩
  | .bool _, _ => ⟨rfl, rfl⟩
  | .int i, e => by
    have hl : i.natAbs.log2 < 299 := Nat.lt_of_lt_of_le (of_decide_eq_true e) (by omega)
    refine ⟨decide_eq_true (by omega), decide_eq_true ?_⟩
    show (Str.ofString (toString i)).length ≤ 300
    rw [PySem.ofString_length]
    exact int_text_length_le (by decide) hl
  | .str x, e => by
    refine ⟨rfl, ?_⟩
    show (x.cps.toList.all fun c => decide (c < 16 ^ 8)) = true
    rw [List.all_eq_true]
    intro c hc
    have := of_decide_eq_true (List.all_eq_true.mp (show (x.cps.toList.all fun c => decide (c < 1114112)) = true from e) c hc)
    exact decide_eq_true (Nat.lt_trans this (by decide))
  | .list xs, e => smAll_shows hm xs e
  | .tuple xs, e => smAll_shows hm xs e
  | .dict D, e => smKv_shows hm D e
theorem smAll_shows {m : Nat} (hm : m ≤ 298) : ∀ d, smAll m d = true → PyData.showableAll d = true ∧ PyData.leavesShortAll 300 d = true
  | [], _ => ⟨rfl, rfl⟩
  | x :: xs, e => by
    obtain ⟨a, b⟩ := Bool.and_eq_true_iff.mp e
    obtain ⟨a1, a2⟩ := sm_shows hm x a
    obtain ⟨b1, b2⟩ := smAll_shows hm xs b
    exact ⟨Bool.and_eq_true_iff.mpr ⟨a1, b1⟩, Bool.and_eq_true_iff.mpr ⟨a2, b2⟩⟩
theorem smKv_shows {m : Nat} (hm : m ≤ 298) : ∀ d, smKv m d = true → PyData.showableKv d = true ∧ PyData.leavesShortKv 300 d = true
  | [], _ => ⟨rfl, rfl⟩
  | (k, v) :: xs, e => by
    obtain ⟨a, b⟩ := Bool.and_eq_true_iff.mp e
    obtain ⟨b, c⟩ := Bool.and_eq_true_iff.mp b
    obtain ⟨a1, a2⟩ := sm_shows hm k a
    obtain ⟨b1, b2⟩ := sm_shows hm v b
    obtain ⟨c1, c2⟩ := smKv_shows hm xs c
    exact ⟨Bool.and_eq_true_iff.mpr ⟨Bool.and_eq_true_iff.mpr ⟨a1, b1⟩, c1⟩, Bool.and_eq_true_iff.mpr ⟨Bool.and_eq_true_iff.mpr ⟨a2, b2⟩, c2⟩⟩
end
structure Wf (m n w : Nat) (d : PyData) : Prop where
  sm : sm m d = true
  dp : d.depth ≤ n
  wt : d.weight ≤ w
structure WfA (m n w : Nat) (ds : List PyData) : Prop where
  sm : smAll m ds = true
  dp : PyData.depthAll ds ≤ n
  wt : PyData.weightAll ds ≤ w
variable {m n w : Nat} {d : PyData} {ds : List PyData}
theorem Wf.shows (h : Wf m n w d) (hm : m ≤ 298) (hn : n ≤ 60) (hw : w ≤ 50000) : d.showable = true ∧ d.depth ≤ 60 ∧ d.shown.length ≤ sizeLine := by
  obtain ⟨a, b⟩ := sm_shows hm d h.sm
  refine ⟨a, Nat.le_trans h.dp hn, ?_⟩
  have l := PyData.shown_le 300 (by decide) d b
  have w1 := h.wt
  rw [sizeLine_eq]
  omega
theorem Wf.mono {m' n' w' : Nat} (h : Wf m n w d) (h1 : m ≤ m') (h2 : n ≤ n') (h3 : w ≤ w') : Wf m' n' w' d := ⟨sm_mono h1 d h.sm, Nat.le_trans h.dp h2, Nat.le_trans h.wt h3⟩
theorem WfA.mono {m' n' w' : Nat} (h : WfA m n w ds) (h1 : m ≤ m') (h2 : n ≤ n') (h3 : w ≤ w') : WfA m' n' w' ds := ⟨smAll_mono h1 ds h.sm, Nat.le_trans h.dp h2, Nat.le_trans h.wt h3⟩
theorem WfA.nil : WfA m n w [] := ⟨rfl, Nat.zero_le _, Nat.zero_le _⟩
theorem WfA.cons {a c : Nat} (h : Wf m n a d) (g : WfA m n c ds) : WfA m n (a + 1 + c) (d :: ds) := by
  refine ⟨Bool.and_eq_true_iff.mpr ⟨h.sm, g.sm⟩, ?_, ?_⟩
  · show max d.depth (PyData.depthAll ds) ≤ n
    have h1 := h.dp
    have h2 := g.dp
    omega
  · show d.weight + 1 + PyData.weightAll ds ≤ _
    have h1 := h.wt
    have h2 := g.wt
    omega
theorem Wf.tup (h : WfA m n w ds) : Wf m (n + 1) w (.tuple ds) := ⟨h.sm, Nat.succ_le_succ h.dp, h.wt⟩
theorem Wf.lst (h : WfA m n w ds) : Wf m (n + 1) w (.list ds) := ⟨h.sm, Nat.succ_le_succ h.dp, h.wt⟩
theorem Wf.dic {k : PyData} {a : Nat} (h : Wf m n w d) (g : Wf m n a k) : Wf m (n + 1) (a + w + 2) (.dict [(k, d)]) := by
  refine ⟨?_, ?_, ?_⟩
  · show (G.sm m k && (G.sm m d && true)) = true
    rw [g.sm, h.sm]
    rfl
  · show max (max k.depth d.depth) 0 + 1 ≤ n + 1
    have h1 := h.dp
    have h2 := g.dp
    omega
  · show k.weight + d.weight + 2 + 0 ≤ _
    have h1 := h.wt
    have h2 := g.wt
    omega
theorem Wf.untup (h : Wf m (n + 1) w (.tuple ds)) : WfA m n w ds := ⟨h.sm, Nat.le_of_succ_le_succ h.dp, h.wt⟩
theorem Wf.tup_pos (h : Wf m n w (.tuple ds)) : ∃ k, n = k + 1 := ⟨n - 1, by
  have : PyData.depthAll ds + 1 ≤ n := h.dp
  omega⟩
theorem smAll_app {a b : List PyData} : smAll m (a ++ b) = (smAll m a && smAll m b) := by
  induction a with
  | nil => rfl
  | cons x a ih =>
    show (sm m x && smAll m (a ++ b)) = ((sm m x && smAll m a) && smAll m b)
    rw [ih, Bool.and_assoc]
theorem weightAll_app {a b : List PyData} : PyData.weightAll (a ++ b) = PyData.weightAll a + PyData.weightAll b := by
  induction a with
  | nil =>
    show _ = 0 + _
    rw [Nat.zero_add]
    rfl
  | cons x a ih =>
    show x.weight + 1 + PyData.weightAll (a ++ b) = x.weight + 1 + PyData.weightAll a + PyData.weightAll b
    rw [ih]
    omega
theorem depthAll_app {a b : List PyData} : PyData.depthAll (a ++ b) = max (PyData.depthAll a) (PyData.depthAll b) := by
  induction a with
  | nil =>
    show _ = max 0 _
    rw [Nat.zero_max]
    rfl
  | cons x a ih =>
    show max x.depth (PyData.depthAll (a ++ b)) = max (max x.depth (PyData.depthAll a)) (PyData.depthAll b)
    rw [ih, Nat.max_assoc]
theorem WfA.app {a b : List PyData} {u v : Nat} (h : WfA m n u a) (g : WfA m n v b) : WfA m n (u + v) (a ++ b) := by
  refine ⟨?_, ?_, ?_⟩
  · rw [smAll_app, h.sm, g.sm]
    rfl
  · rw [depthAll_app]
    have h1 := h.dp
    have h2 := g.dp
    omega
  · rw [weightAll_app]
    have h1 := h.wt
    have h2 := g.wt
    omega
/-- split at a place -/
theorem WfA.split (h : WfA m n w ds) (i : Nat) : ∃ u v, WfA m n u (ds.take i) ∧ WfA m n v (ds.drop i) ∧ u + v ≤ w := by
  have e : ds = ds.take i ++ ds.drop i := (List.take_append_drop i ds).symm
  have s := h.sm
  rw [e, smAll_app] at s
  obtain ⟨s1, s2⟩ := Bool.and_eq_true_iff.mp s
  have dd := h.dp
  rw [e, depthAll_app] at dd
  have ww := h.wt
  rw [e, weightAll_app] at ww
  exact ⟨_, _, ⟨s1, by omega, Nat.le_refl _⟩, ⟨s2, by omega, Nat.le_refl _⟩, ww⟩
theorem WfA.uncons (h : WfA m n w (d :: ds)) : ∃ u v, Wf m n u d ∧ WfA m n v ds ∧ u + 1 + v ≤ w := by
  obtain ⟨s1, s2⟩ := Bool.and_eq_true_iff.mp h.sm
  have dd : max d.depth (PyData.depthAll ds) ≤ n := h.dp
  have ww : d.weight + 1 + PyData.weightAll ds ≤ w := h.wt
  exact ⟨_, _, ⟨s1, by omega, Nat.le_refl _⟩, ⟨s2, by omega, Nat.le_refl _⟩, ww⟩
theorem WfA.len (h : WfA m n w ds) : ds.length ≤ w := by
  have key : ∀ ds : List PyData, ds.length ≤ PyData.weightAll ds := by
    intro ds
    induction ds with
    | nil => exact Nat.le_refl _
    | cons x ds ih =>
      show ds.length + 1 ≤ x.weight + 1 + PyData.weightAll ds
      omega
  exact Nat.le_trans (key ds) h.wt
theorem WfA.at {i : Nat} (h : WfA m n w ds) (e : ds[i]? = some d) : ∃ u v x, WfA m n u (ds.take i) ∧ Wf m n x d ∧ WfA m n v (ds.drop (i + 1)) ∧ u + (x + 1 + v) ≤ w := by
  obtain ⟨u, v, h1, h2, h3⟩ := h.split i
  obtain ⟨hi, hd⟩ := List.getElem?_eq_some_iff.mp e
  rw [List.drop_eq_getElem_cons hi, hd] at h2
  obtain ⟨x, v', a, b, c⟩ := h2.uncons
  exact ⟨u, v', x, h1, a, b, by omega⟩
theorem WfA.rev (h : WfA m n w ds) : WfA m n w ds.reverse := by
  have key : ∀ {ds : List PyData} {w : Nat}, WfA m n w ds → WfA m n w ds.reverse := by
    intro ds
    induction ds with
    | nil => exact fun h => h
    | cons x ds ih =>
      intro w h
      obtain ⟨u, v, a, b, c⟩ := h.uncons
      rw [List.reverse_cons]
      exact ((ih b).app (WfA.cons a WfA.nil : WfA m n (u + 1 + 0) [x])).mono (Nat.le_refl _) (Nat.le_refl _) (by omega)
  exact key h
theorem Wf.int {i : Int} (h : i.natAbs.log2 < m) : Wf m n (m + 1) (.int i) := by
  refine ⟨decide_eq_true h, Nat.zero_le _, ?_⟩
  show (if (i == 0) = true then 0 else i.natAbs.log2 + 1) ≤ m + 1
  split <;> omega
theorem Wf.bl {b : Bool} : Wf m n w (.bool b) := ⟨rfl, Nat.zero_le _, Nat.zero_le _⟩
theorem Wf.non : Wf m n w .none := ⟨rfl, Nat.zero_le _, Nat.zero_le _⟩
theorem Wf.of {d : PyData} (h : (G.sm m d && decide (d.depth ≤ n) && decide (d.weight ≤ w)) = true) : Wf m n w d := by
  obtain ⟨a, c⟩ := Bool.and_eq_true_iff.mp h
  obtain ⟨a, b⟩ := Bool.and_eq_true_iff.mp a
  exact ⟨a, of_decide_eq_true b, of_decide_eq_true c⟩
section
variable {X : Cx}
/-- t != (), t any tuple -/
def rNeT0 : R2 := fun x y H Q => ∃ (a e : Addr) (xs : List V), x = .ref a ∧ y = .ref e ∧ H a = some (.tup xs) ∧ H e = some (.tup []) ∧ Q (.bl (!xs.isEmpty)) H
theorem op_neT0 (hu : X.A.units + 64 < cLine) : OpR X (compareOp .NotEq) rNeT0 := by
  intro pins s σ H x y v u Q I rx ry h
  obtain ⟨a, e, xs, rfl, rfl, ha, he, q⟩ := h
  cases rx
  cases ry
  obtain ⟨i1, r1, p1, _⟩ := I.tuple (SqT.of ha)
  obtain ⟨i2, r2, p2, _⟩ := I.tuple (SqT.of he)
  cases r2
  refine (SeqAt.RcNeAt.tuples (e := fun _ => true) p1 p2 (by omega) fun j h1 h2 => absurd h2 (Nat.not_lt_zero j)) _ _ _ _ ?_
  refine ⟨.bl _, H, I, ?_, q⟩
  show Value.bool _ = Value.bool _
  congr 1
  cases r1 <;> simp
end
end G
set_option Elab.async false
set_option maxRecDepth 100000
set_option maxHeartbeats 4000000
/-! sum(a list of tuples, a tuple) -/
namespace G
open PySem PySem.Spec PyProof.Rows L2 HT
section
variable {prog : Program} {w : World} {A : Around} {R : Result → Shared → Prop} {E : Value → Shared → Prop} {s : Shared}
/-- t + u of tuples, what stood stays -/
theorem cat_raw {t b : Addr} {vs ws : List Value} {Q : Value → Shared → Prop} (ht : IsTup s.heap t vs.toArray) (hb : IsTup s.heap b ws.toArray) (hsz : vs.length + ws.length ≤ sizeLine)
    (h : ∀ (r : Addr) (h' : Heap), (∀ c o, s.heap.get? c = some o → h'.get? c = some o) → IsTup h' r (vs ++ ws).toArray → (r = t ∨ r = b ∨ s.heap.objs.size ≤ r) → Q (.ref r) { s with heap := h' }) : wpAny (model prog w) A (binaryOp .Add (.ref t) (.ref b)) Q E s := by
  by_cases hv : vs = []
  · subst hv
    exact cat_tup0 ht hb (h b s.heap (fun _ _ e => e) hb (.inr (.inl rfl)))
  · refine cat_tup ht hb hv (fun hw => ?_) (fun hw => ?_) hsz
    · subst hw
      exact h t s.heap (fun _ _ e => e) (by rw [List.append_nil]; exact ht) (.inl rfl)
    · exact h _ _ (fun c o e => Heap.get?_push_of_some _ e) (IsTup.new _ _) (.inr (.inr (Nat.le_refl _)))
def preCat (val : Nat → List Value) : Nat → List Value
  | 0 => []
  | i + 1 => preCat val i ++ val i
theorem tup_type {h : Heap} {t : Addr} {vs : Array Value} (x : IsTup h t vs) {s : Shared} (e : s.heap = h) : s.TypeIs (.ref t) "tuple" := by
  subst e
  obtain ⟨o, ho, hc, _⟩ := x
  exact ⟨o, ho, hc⟩
theorem codeAny_sum_loopT {I : Addr} {fp wr : List Addr} {n : Nat} {P : Nat → Value → Prop} {St : Nat → Heap → Prop} (W : Walks prog w A.in1 I fp wr n P St) (val : Nat → List Value) (at_ : Nat → Addr) (hval : ∀ i v, P i v → v = .ref (at_ i)) (S : Addr) (hSf : S ∉ fp)
    (hwT : ∀ i h b vs, St i h → b ∈ wr → ¬ IsTup h b vs) (hnW : ∀ i, i < n → at_ i ∉ wr ∧ at_ i ≠ S) (hsz : ∀ i, i < n → (preCat val i).length + (val i).length ≤ sizeLine) :
    ∀ (k i : Nat) (s : Shared) (t : Addr) (c : Nat), n - i = k → i ≤ n → St i s.heap → (∀ j, j < n → IsTup s.heap (at_ j) (val j).toArray) → t ∉ wr → t ≠ S → IsTup s.heap t (preCat val i).toArray →
    s.heap.get? S = some { cls := .type "list", dict := none, data := .seq #[.ref t] c, slots := #[] } →
    (∀ h' tk t', (∀ b o, b ∉ wr → b ≠ S → s.heap.get? b = some o → h'.get? b = some o) → IsTup h' t' (preCat val n).toArray → (t' = t ∨ (∃ j, j < n ∧ t' = at_ j) ∨ S < t') → R (.ok (.ret (.ref t'))) { s with heap := h', toks := tk }) →
    codeAny (model prog w) A (.builtin "sum.loop" ⟨[.ref I, .ref S, rawInt 2, rawInt 0], []⟩) R s := by
  have hSw : S ∉ wr := fun h => hSf (W.sub _ h)
  intro k
  induction k with
  | zero =>
    intro i s t c hk hi hst hts htw htS ht hS hR
    have hin : i = n := by omega
    subst hin
    refine codeAny_builtin F.entry_sum_loop ?_
    rw [Around.under_plainId F.plain_sum_loop _]
    show wpAny _ A.in1 (seqItems? (.ref S) >>= _) _ _ s
    refine wpAny_bind (wpAny_seqItems hS rfl ?_)
    show wpAny _ A.in1 (tryCatch (pyNext (.ref I)) _ >>= _) _ _ s
    refine wpAny_bind (wpAny_tryCatch (W.done s _ _ hst fun h' tk hk' => ?_))
    obtain ⟨o, ho, hr⟩ := ht
    exact wpAny_pure (hR h' tk t (fun b o hbw _ e => hk' b o hbw e) ⟨o, hk' _ _ htw ho, hr⟩ (.inl rfl))
  | succ k ih =>
    intro i s t c hk hi hst hts htw htS ht hS hR
    have hlt : i < n := by omega
    refine codeAny_builtin F.entry_sum_loop ?_
    rw [Around.under_plainId F.plain_sum_loop _]
    show wpAny _ A.in1 (seqItems? (.ref S) >>= _) _ _ s
    refine wpAny_bind (wpAny_seqItems hS rfl ?_)
    show wpAny _ A.in1 (tryCatch (pyNext (.ref I)) _ >>= _) _ _ s
    refine wpAny_bind (wpAny_tryCatch (W.item i s _ _ hlt hst fun v h' tk hP hst' hk' => ?_))
    have ev := hval i v hP
    subst ev
    have hS' := hk' S _ hSw hS
    have ht' : IsTup h' t (preCat val i).toArray := by
      obtain ⟨o, ho, hr⟩ := ht
      exact ⟨o, hk' _ _ htw ho, hr⟩
    have hts' : ∀ j, j < n → IsTup h' (at_ j) (val j).toArray := fun j hj => by
      obtain ⟨o, ho, hr⟩ := hts j hj
      exact ⟨o, hk' _ _ (hnW j hj).1 ho, hr⟩
    show wpAny _ A.in1 ((holding [Value.ref (at_ i)] (binaryOp .Add (.ref t) (.ref (at_ i)))).attempt >>= _) _ _ _
    refine wpAny_bind (wpAny_attempt (wpAny_holding (cat_raw (s := { s with heap := h', toks := tk }) ht' (hts' i hlt) (hsz i hlt) fun r h2 keep hr hw => ?_)))
    have keepS : ∀ (h3 : Heap), (∀ c o, h'.get? c = some o → h3.get? c = some o) → h3.get? S = some { cls := .type "list", dict := none, data := .seq #[.ref t] c, slots := #[] } := fun h3 kp => kp _ _ hS'
    have hS2 := keepS h2 keep
    show wpAny _ A.in1 (updateSeq S (fun _ => #[.ref r]) >>= _) _ _ _
    refine wpAny_bind ?_
    refine wpAny_updateSeq hS2 rfl ?_
    have hS3 := Heap.get?_update_self (Obj.mapSeq fun _ => #[Value.ref r]) hS2 rfl
    refine wpAny_bind (wpAny_letGo ?_)
    refine wpAny_bind ?_
    refine wpAny_updateSeq hS3 rfl ?_
    have hrS : r ≠ S := fun z => by
      obtain ⟨o, ho, hc, _⟩ := hr
      rw [z, hS2] at ho
      cases ho
      exact absurd (show Value.type "list" = Value.type "tuple" from hc) (by decide)
    have st2 : St (i + 1) h2 := W.frame _ _ _ hst' fun b _ o e => keep b o e
    have hrw : r ∉ wr := fun z => hwT _ _ _ _ st2 z hr
    have upS : ∀ {h3 : Heap} {g : Obj → Obj} {b : Addr} {vs : Array Value}, b ≠ S → IsTup h3 b vs → IsTup (h3.update S g) b vs := fun {h3 g b vs} ne ⟨o, ho, hr⟩ => ⟨o, (Heap.get?_update_other _ _ (Ne.symm ne)).trans ho, hr⟩
    have tup2 : ∀ {b : Addr} {vs : Array Value}, IsTup h' b vs → IsTup h2 b vs := fun ⟨o, ho, hr⟩ => ⟨o, keep _ _ ho, hr⟩
    refine wpAny_pure ⟨plainId_quiet F.plain_sum_loop _, ih (i + 1) _ r _ (by omega) hlt (W.frame _ _ _ st2 fun b hb o e => ?_) (fun j hj => upS (hnW j hj).2 (upS (hnW j hj).2 (tup2 (hts' j hj)))) hrw hrS (upS hrS (upS hrS hr)) (Heap.get?_update_self _ hS3 rfl) fun h'' tk'' t'' hk'' ht'' hw'' => ?_⟩
    · exact (Heap.get?_update_other _ _ (fun h : S = b => hSf (by rw [h]; exact hb))).trans ((Heap.get?_update_other _ _ (fun h : S = b => hSf (by rw [h]; exact hb))).trans e)
    · exact hR h'' tk'' t'' (fun b o hbw hbS e => hk'' b o hbw hbS ((Heap.get?_update_other _ _ (Ne.symm hbS)).trans ((Heap.get?_update_other _ _ (Ne.symm hbS)).trans (keep _ _ (hk' b o hbw e))))) ht'' (by
        rcases hw'' with z | z | z
        · rcases hw with y | y | y
          · exact .inl (z.trans y)
          · exact .inr (.inl ⟨i, hlt, z.trans y⟩)
          · exact .inr (.inr (by rw [z]; exact Nat.lt_of_lt_of_le (Heap.lt_size hS') y))
        · exact .inr (.inl z)
        · exact .inr (.inr z))
theorem F.args_sum2 (a b : Value) : argsOk "sum" ⟨[a, b], []⟩ := by unfold argsOk; kernel_rfl
theorem sub_tup_bytes : isSubtype (.type "tuple") (.type "bytes") = pure false := by rw [isSubtype_type]; kernel_rfl
theorem sub_tup_bytearray : isSubtype (.type "tuple") (.type "bytearray") = pure false := by rw [isSubtype_type]; kernel_rfl
theorem call_sum_tups {l t : Addr} {items : Array Value} {Q : Value → Shared → Prop} (hh : A.handled = none) (hl : s.heap.IsList l items) (val : Nat → List Value) (at_ : Nat → Addr) (hat : ∀ (i : Nat) (v : Value), items[i]? = some v → v = .ref (at_ i))
    (hts : ∀ j, j < items.size → IsTup s.heap (at_ j) (val j).toArray) (ht : IsTup s.heap t ([] : List Value).toArray) (hsz : ∀ i, i < items.size → (preCat val i).length + (val i).length ≤ sizeLine)
    (h : ∀ h' tk t', (∀ b o, s.heap.get? b = some o → h'.get? b = some o) → IsTup h' t' (preCat val items.size).toArray → (t' = t ∨ (∃ j, j < items.size ∧ t' = at_ j) ∨ s.heap.objs.size ≤ t') → Q (.ref t') { s with heap := h', toks := tk }) :
    wpAny (model prog w) A (call (.builtin "sum") [.ref l, .ref t]) Q E s := by
  have hlt : ∀ {b : Addr} {vs : Array Value}, IsTup s.heap b vs → b < s.heap.objs.size := fun ⟨o, ho, _⟩ => Heap.lt_size ho
  have hll : l < s.heap.objs.size := by
    obtain ⟨_, e, _⟩ := hl
    exact Heap.lt_size e
  refine call_function_tree F.kind_sum F.plain_sum F.entry_sum (F.args_sum2 _ _) ?_
  unfold Builtin.«sum»
  simp only [List.length_cons, List.length_nil]
  rw [if_neg (by decide)]
  refine wpAny_bind (wpAny_of_eq (show Builtin.Builtins.bindParams "sum" ["start"] 0 ⟨[Value.ref t], []⟩ = pure [some (Value.ref t)] from rfl) ?_)
  refine wpAny_bind (wpAny_pyIter_list hl ?_)
  refine wpAny_bind (wpAny_pure ?_)
  simp only [List.forIn_cons, List.forIn_nil]
  have T0 : ({ s with heap := s.heap.push { cls := .type "list_iterator", data := .fields #[.ref l, .int 0 0] } } : Shared).TypeIs (.ref t) "tuple" := tup_type (ht.push _) rfl
  refine wpAny_bind (wpAny_bind (wpAny_bind (wpAny_isInstance (T := "tuple") (b := false) T0 F.sub_tuple_str ?_)))
  simp only [Bool.false_eq_true, if_false]
  refine wpAny_pure (wpAny_bind (wpAny_bind (wpAny_isInstance (T := "tuple") (b := false) T0 sub_tup_bytes ?_)))
  simp only [Bool.false_eq_true, if_false]
  refine wpAny_pure (wpAny_bind (wpAny_bind (wpAny_isInstance (T := "tuple") (b := false) T0 sub_tup_bytearray ?_)))
  simp only [Bool.false_eq_true, if_false]
  refine wpAny_pure (wpAny_pure ?_)
  refine wpAny_bind (wpAny_newObj_type ?_)
  have iS : (s.heap.push { cls := .type "list_iterator", data := .fields #[.ref l, .int 0 0] } : Heap).objs.size = s.heap.objs.size + 1 := by rw [Heap.size_push]
  have hfp : ∀ b ∈ [s.heap.objs.size, l], b ≠ s.heap.objs.size + 1 := fun b hb => by
    rcases List.mem_cons.mp hb with rfl | hb
    · exact Nat.ne_of_lt (Nat.lt_succ_self _)
    · rcases List.mem_cons.mp hb with rfl | hb
      · exact Nat.ne_of_lt (Nat.lt_succ_of_lt hll)
      · cases hb
  have hlI : l ≠ s.heap.objs.size := Nat.ne_of_lt hll
  have upt : ∀ {b : Addr} {vs : Array Value} {o1 o2 : Obj}, IsTup s.heap b vs → IsTup ((s.heap.push o1).push o2) b vs := fun x => (x.push _).push _
  refine wpAny_pure ⟨plainId_quiet F.plain_sum_loop _, codeAny_sum_loopT (Walks.list (A := A.in1) hh s.heap.objs.size l hlI items) val at_ hat (s.heap.push { cls := .type "list_iterator", data := .fields #[.ref l, .int 0 0] } : Heap).objs.size (fun z => hfp _ z iS.symm.symm) ?_ ?_ hsz items.size 0 _ t 0 rfl (Nat.zero_le _) ?_ (fun j hj => upt (hts j hj)) ?_ ?_ (upt ht) (Heap.get?_push_size _ rfl) fun h' tk t' hk ht' hw => ?_⟩
  · rintro i h b vs ⟨hi, _⟩ hb ⟨o, ho, hc, _⟩
    rw [List.mem_singleton.mp hb] at ho
    obtain ⟨o2, ho2, hc2, _⟩ := hi
    rw [ho] at ho2
    cases ho2
    exact absurd (show Value.type "tuple" = Value.type "list_iterator" from hc.symm.trans hc2) (by decide)
  · intro i hi
    have l1 := hlt (hts i hi)
    exact ⟨fun z => by rw [List.mem_singleton.mp z] at l1; exact Nat.lt_irrefl _ l1, fun z => by rw [z, iS] at l1; exact Nat.lt_irrefl _ (Nat.lt_of_succ_lt l1)⟩
  · exact ⟨⟨_, Heap.get?_push_of_some _ (Heap.get?_push_size _ rfl), rfl, rfl⟩, (hl.push _).push _⟩
  · have l1 := hlt ht
    exact fun z => by rw [List.mem_singleton.mp z] at l1; exact Nat.lt_irrefl _ l1
  · have l1 := hlt ht
    exact fun z => by rw [z, iS] at l1; exact Nat.lt_irrefl _ (Nat.lt_of_succ_lt l1)
  · refine h h' tk t' (fun b o e => hk b o (fun z => ?_) (fun z => ?_) (Heap.get?_push_of_some _ (Heap.get?_push_of_some _ e))) ht' (by
        rcases hw with z | z | z
        · exact .inl z
        · exact .inr (.inl z)
        · exact .inr (.inr (by rw [iS] at z; exact Nat.le_of_lt (Nat.lt_of_succ_lt z))))
    · have l1 := Heap.lt_size e
      rw [List.mem_singleton.mp z] at l1
      exact Nat.lt_irrefl _ l1
    · have l1 := Heap.lt_size e
      rw [z, iS] at l1
      exact Nat.lt_irrefl _ (Nat.lt_of_succ_lt l1)
end
theorem tup_uniq {h : Heap} {a : Addr} {xs ys : Array Value} (x : IsTup h a xs) (y : IsTup h a ys) : xs = ys := by
  obtain ⟨o, e, _, n, d⟩ := x
  obtain ⟨o', e', _, n', d'⟩ := y
  rw [e] at e'
  cases e'
  rw [d] at d'
  injection d'
section
variable {X : Cx}
def catV (f : Nat → List V) : Nat → List V
  | 0 => []
  | i + 1 => catV f i ++ f i
/-- sum(xs, ()) of a list of tuples -/
def rSumT (K : PySem.W.Frag) : List V → Hp → VK → Prop := fun vs H Q => ∃ (a t : Addr) (at_ : Nat → Addr) (f : Nat → List V) (n : Nat), vs = [.ref a, .ref t] ∧ H a = some (.lst ((List.range n).map fun i => V.ref (at_ i))) ∧ H t = some (.tup []) ∧ (∀ i, i < n → H (at_ i) = some (.tup (f i))) ∧ (∀ i, i < n → (catV f i).length + (f i).length ≤ sizeLine) ∧
  ∀ (r : Addr) (H' : Hp), Same H H' → H' r = some (.tup (catV f n)) → Q (.ref r) H'
theorem call_sumT (hc : X.calm = true) : CallR X (.builtin "sum") (rSumT X.K) := by
  intro pins s σ H vs us Q I r h
  obtain ⟨a, t, at_, f, n, rfl, ha, ht, hat, hsz, q⟩ := h
  obtain ⟨its, m, rv, hl, _⟩ := I.lst ha
  obtain ⟨its0, r0, p0, _⟩ := I.tuple (SqT.of (K := X.K) ht)
  have e0 : its0 = [] := Vals.zero r0
  subst e0
  have hv : ∀ i, ∃ us : List Value, i < n → Vals (f i) us ∧ IsTup s.heap (at_ i) us.toArray := fun i => by
    by_cases hi : i < n
    · obtain ⟨us, r1, p1, _⟩ := I.tuple (SqT.of (K := X.K) (hat i hi))
      exact ⟨us, fun _ => ⟨r1, p1⟩⟩
    · exact ⟨[], fun z => absurd z hi⟩
  obtain ⟨val, hval⟩ := Classical.axiomOfChoice hv
  have hlen : its.length = n := by rw [← rv.length, List.length_map, List.length_range]
  have pre : ∀ i, i ≤ n → Vals (catV f i) (preCat val i) := fun i => by
    induction i with
    | zero => exact fun _ => .nil
    | succ i ih => exact fun h => (ih (Nat.le_of_succ_le h)).append (hval i h).1
  obtain ⟨u1, u2, rfl, ra, rt⟩ := Vals.two r
  cases ra
  cases rt
  refine call_sum_tups (I.ok.hd hc) (items := its.toArray) ⟨_, hl, rfl, _, rfl⟩ val at_ (fun i v e => ?_) (fun j hj => (hval j (by simpa [hlen] using hj)).2) p0 (fun i hi => ?_) fun h' tk t' hk ht' hw => ?_
  · have e' : its[i]? = some v := by simpa using e
    have hi : i < n := by
      rw [← hlen]
      exact (List.getElem?_eq_some_iff.mp e').1
    obtain ⟨u, e2, r2⟩ := rv.get (i := i) (x := V.ref (at_ i)) (by rw [List.getElem?_map, List.getElem?_range hi]; rfl)
    rw [e'] at e2
    cases e2
    exact r2
  · have hi' : i < n := by simpa [hlen] using hi
    rw [← (pre i (Nat.le_of_lt hi')).length, ← (hval i hi').1.length]
    exact hsz i hi'
  · have hp : Vals (catV f n) (preCat val n) := pre n (Nat.le_refl _)
    have en : its.toArray.size = n := by simpa using hlen
    rw [en] at ht' hw
    have I2 : L2.Inv X pins σ H { s with heap := h', toks := tk } := I.kept hk
    rcases hw with z | ⟨j, hj, z⟩ | z
    · have e1 := tup_uniq ht' (z ▸ (p0.keeps hk))
      have e2 : catV f n = [] := by
        rw [show preCat val n = [] by simpa using e1] at hp
        exact List.eq_nil_of_length_eq_zero hp.length
      exact ⟨.ref t', H, I2, rfl, q t' H (Same.refl H) (by rw [e2, z]; exact ht)⟩
    · have e1 := tup_uniq ht' (z ▸ ((hval j hj).2.keeps hk))
      have e2 : catV f n = f j := by
        rw [show preCat val n = val j by simpa using e1] at hp
        exact hp.inj (hval j hj).1
      exact ⟨.ref t', H, I2, rfl, q t' H (Same.refl H) (by rw [e2, z]; exact hat j hj)⟩
    · have new : ObjOk X.prog X.w (upd H t' (.tup (catV f n))) h' t' (.tup (catV f n)) := by
        refine ⟨?_, _, hp, ht'⟩
        cases n with
        | zero => exact Nat.zero_le _
        | succ i => exact (by rw [show catV f (i + 1) = catV f i ++ f i from rfl, List.length_append]; exact hsz i (Nat.lt_succ_self i))
      exact ⟨.ref t', _, I.laid (t' := tk) hk z new, rfl, q t' _ (fun c u e => by rw [upd_ne (fun y => by rw [y, I.hok.fresh z] at e; cases e)]; exact e) upd_same⟩
end
end G
set_option Elab.async false
set_option maxRecDepth 100000
set_option maxHeartbeats 4000000
/-! defs with star arguments; a list against [] -/
namespace G
open PySem PySem.Spec PyProof.Rows L2
theorem cx_new {P : Program} {w : World} : CXNew (L2.CX P w) := by
  rintro outer s H h2 p rest E e s' k hp hn ⟨a, B, H', cls, d, rfl, fl, hok, ub, na, os, ag, hE⟩
  have ne : ∀ {b : Addr} {o : Obj}, s.heap.get? b = some o → b ≠ p := fun e z => by
    have l := Heap.lt_size e
    rw [z] at l
    exact Nat.lt_irrefl _ (Nat.lt_of_lt_of_le l hp)
  have nt : ∀ {b : Addr} {o : HO}, H b = some o → b ≠ p := fun e z => by
    rw [z, hn] at e
    cases e
  refine ⟨a, B, H', cls, d, rfl, fl, hok, ?_, na, os, ag, hE⟩
  exact { keep := fun b o e n f => ub.keep b o (k _ _ e) ((upd_ne (ne e)).trans n) f
          slot := fun b o e f => ub.slot b o (k _ _ e) f
          free := fun b o e n => ub.free b o (k _ _ e) ((upd_ne (ne e)).trans n)
          there := fun b o e f => ub.there b o (k _ _ e) f
          tups := fun b xs e => ub.tups b xs ((upd_ne (nt e)).trans e)
          frzs := fun b o xs e => ub.frzs b o xs ((upd_ne (nt e)).trans e)
          tbls := fun b ps e => ub.tbls b ps ((upd_ne (nt e)).trans e) }
section
variable {X : Cx}
/-- xs != [], xs any list -/
def rNeL0 : R2 := fun x y H Q => ∃ (a e : Addr) (xs : List V), x = .ref a ∧ y = .ref e ∧ H a = some (.lst xs) ∧ H e = some (.lst []) ∧ Q (.bl (!xs.isEmpty)) H
theorem op_neL0 (hu : X.A.units + 64 < cLine) : OpR X (compareOp .NotEq) rNeL0 := by
  intro pins s σ H x y v u Q I rx ry h
  obtain ⟨a, e, xs, rfl, rfl, ha, he, q⟩ := h
  cases rx
  cases ry
  obtain ⟨i1, r1, p1, _⟩ := I.list (SqL.of ha)
  obtain ⟨i2, r2, p2, _⟩ := I.list (SqL.of he)
  cases r2
  cases r1 with
  | nil =>
    refine (SeqAt.RcNeAt.lists (e := fun _ => true) p1.isList p2.isList rfl (by omega) fun j h1 h2 => absurd h2 (Nat.not_lt_zero j)) _ _ _ _ ?_
    exact ⟨.bl _, H, I, rfl, q⟩
  | cons _ _ =>
    refine (SeqAt.RcNeAt.lists_lengths p1.isList p2.isList (by simp) (by omega)) _ _ _ _ ?_
    exact ⟨.bl _, H, I, rfl, q⟩
/-- f(e, ..), f told by positional values -/
def tCallR (sp : Sp) (E : XK) (t : TA) : TE := fun σ H Q => t σ H fun vs H1 => sp vs H1 Q E
theorem pe_callR {CX : CXT} {k : Nat} {f : Addr} {sp : Sp} {E : XK} {x : Str} {e : Expr} {es : List Expr} {t : TA} {p pos : Pos} (F : FnR X.prog X.w X.K X.mg X.base CX k f sp) (hr : Room k X.A) (hg : Gl X x) (hm : X.mg x = some (.ref f)) (hk : PySem.W.keepIn X.K (.ref f) = true) (hx : Passes CX X E)
    (ha : PA X (e :: es) t) (hdb : (x == ("__debug__" : Str)) = false := by decide) (he : starEach (e :: es) X.env = (false, eval e X.env) :: starEach es X.env := by rfl) (hpl : (backTo pos (starEach es X.env)).any (·.1) = false := by rfl) :
    PE X (.Call (.Name x p) (e :: es) [] pos) (tCallR sp E t) := by
  refine ⟨fun pins s σ H Q I h => ?_⟩
  refine wpAny_Call_Name_kw (ld_glob I hg hm ?_ hdb)
  refine PySem.W.callWith_K (h₀ := X.base) I.ok.mod.kin hk (thn (ha.run pos pins s σ H _ I h) fun us s1 ⟨vs, H1, I1, r, q⟩ => ⟨I1.kIn, ?_⟩) he hpl
  exact wpAny_call (run_fnR F hr hx I1 r q)
end
end G
set_option Elab.async false
set_option maxRecDepth 100000
set_option maxHeartbeats 4000000
/-! repr of a list that is tracked, wherever it stands -/
namespace G
open PySem PySem.Spec PyProof.Rows L2
section
variable {X : Cx}
def rRepL : List V → Hp → VK → Prop := fun xs H Q => ∃ (N : Addr → Prop) (p : Addr) (vs : List V) (ds : List PyData), xs = [.ref p] ∧ H p = some (.lst vs) ∧ DvAll N H vs ds ∧ (PyData.list ds).showable = true ∧ (PyData.list ds).depth ≤ 60 ∧ (PyData.list ds).shown.length ≤ sizeLine ∧ Q (.str (PyData.list ds).shown) H
theorem call_repr_lst {k : Nat} (hg : X.A.guards = some []) (hr : Room k X.A) : CallR X (.builtin "repr") rRepL := by
  intro pins s σ H xs us Q I r h
  obtain ⟨N, p, vs, ds, rfl, hp, hd, hs, hdp, hsz, q⟩ := h
  obtain ⟨u, rfl, hu⟩ := vals1 r
  cases hu
  obtain ⟨_, its, n, rv, e⟩ := (show ObjOk X.prog X.w H s.heap _ (.lst _) from I.hok _ _ hp)
  obtain ⟨as, h4, hn⟩ := DvAll.reads I ds _ its hd rv
  have hU := hr.units
  have hz' : (listText (PyData.shownAll ds)).length ≤ sizeLine := by simpa only [PyData.shown] using hsz
  have h4 : ReadsAll s.heap its.toArray.toList ds as := h4
  obtain ⟨bs, hb, hk⟩ := ReprAllK.of_readsAll (prog := X.prog) (w := X.w) h4 (by simpa [PyData.showable] using hs) (fun _ hm => hn hm) (fun t ht => Nat.le_trans (listText_mem_le ht) hz')
  have hna : p ∉ bs := not_mem_of_deeper (.list e rfl rfl h4) (by simp only [PyData.depth]; omega) hb
  have hT : s.TypeIs (.ref p) "list" := ⟨_, e, rfl⟩
  refine call_repr_slot (by omega) hT F.slot_list_repr.toG ?_
  have fin : ∀ h' u tk, (∀ b o, s.heap.get? b = some o → h'.get? b = some o) → EP X pins σ Q (.str (PyData.list ds).shown u) { s with heap := h', toks := tk } := fun h' u tk kp => ⟨.str (PyData.list ds).shown, H, I.kept (t' := tk) kp, ⟨_, rfl⟩, q⟩
  simp only [PyData.depth] at hdp
  cases its with
  | nil =>
    have h0 : ReadsAll s.heap [] ds as := h4
    cases h0
    simp only [PyData.shown, PyData.shownAll, listText_nil] at fin
    exact call_list_repr_empty hT e rfl ⟨_, _, rfl, fin s.heap _ _ fun _ _ z => z⟩
  | cons x l =>
    simp only [PyData.shown] at fin
    exact call_list_reprK e rfl rfl hna (by simpa using hk.length_eq) (fun i y z => hk.item i y (by simpa using z)) (show X.A.in1.guards = some [] from hg) (fun b _ => Clear.nil b) (by show X.A.units + 1 + _ < cLine; omega) (fun _ _ z => z) (fun h' u tk kp => ⟨_, _, rfl, fin h' u tk kp⟩) hz'
end
end G
set_option Elab.async false
set_option maxRecDepth 100000
/-! spans of numbers under xor: bases, annihilators -/
namespace GF
/-! ### bits -/
theorem tb_log {n : Nat} (h : n ≠ 0) : n.testBit n.log2 = true := Nat.testBit_log2 h
theorem tb_above {n i : Nat} (h : n.log2 < i) : n.testBit i = false :=
  Nat.testBit_lt_two_pow (Nat.lt_of_lt_of_le Nat.lt_log2_self (Nat.pow_le_pow_right (by decide) h))
theorem log_of {n i : Nat} (h : n.testBit i = true) (hh : ∀ j, i < j → n.testBit j = false) : n ≠ 0 ∧ n.log2 = i := by
  have h0 : n ≠ 0 := fun z => by rw [z, Nat.zero_testBit] at h; cases h
  refine ⟨h0, ?_⟩
  rcases Nat.lt_trichotomy n.log2 i with c | c | c
  · rw [tb_above c] at h
    cases h
  · exact c
  · have := hh _ c
    rw [tb_log h0] at this
    cases this
theorem le_log {n i : Nat} (h : n.testBit i = true) : i ≤ n.log2 := Nat.le_of_not_lt fun c => by rw [tb_above c] at h; cases h
/-- decided at the highest bit in which they differ -/
theorem lt_of_bit {x y i : Nat} (h1 : x.testBit i = false) (h2 : y.testBit i = true) (hh : ∀ j, i < j → x.testBit j = y.testBit j) : x < y := by
  have key : x / 2 ^ (i + 1) = y / 2 ^ (i + 1) := by
    apply Nat.eq_of_testBit_eq
    intro j
    rw [Nat.testBit_div_two_pow, Nat.testBit_div_two_pow]
    exact hh _ (by omega)
  have hx : x / 2 ^ i % 2 = 0 := by
    have := h1
    rw [Nat.testBit_eq_decide_div_mod_eq] at this
    have := of_decide_eq_false this
    omega
  have hy : y / 2 ^ i % 2 = 1 := by
    have := h2
    rw [Nat.testBit_eq_decide_div_mod_eq] at this
    exact of_decide_eq_true this
  have e1 : ∀ z : Nat, z / 2 ^ (i + 1) = z / 2 ^ i / 2 := fun z => by rw [Nat.pow_succ, Nat.div_div_eq_div_mul]
  rw [e1, e1] at key
  have lt : x / 2 ^ i < y / 2 ^ i := by omega
  exact Nat.lt_of_div_lt_div lt
theorem ne_bit {x y : Nat} (h : x ≠ y) : (x ^^^ y) ≠ 0 := fun z => h (by
  apply Nat.eq_of_testBit_eq
  intro i
  have e : (x ^^^ y).testBit i = false := by rw [z, Nat.zero_testBit]
  rw [Nat.testBit_xor] at e
  cases hx : x.testBit i <;> cases hy : y.testBit i <;> rw [hx, hy] at e <;> simp at e ⊢)
/-- of two different numbers the lower has 0 at the highest bit of their sum -/
theorem bit_of_lt {x y : Nat} (h : x < y) : x.testBit (x ^^^ y).log2 = false ∧ y.testBit (x ^^^ y).log2 = true := by
  have hn : x ≠ y := Nat.ne_of_lt h
  have ht := tb_log (ne_bit hn)
  have hh : ∀ j, (x ^^^ y).log2 < j → x.testBit j = y.testBit j := fun j hj => by
    have := tb_above hj
    rw [Nat.testBit_xor] at this
    cases hx : x.testBit j <;> cases hy : y.testBit j <;> rw [hx, hy] at this <;> simp at this ⊢
  rw [Nat.testBit_xor] at ht
  cases hx : x.testBit (x ^^^ y).log2 <;> cases hy : y.testBit (x ^^^ y).log2 <;> rw [hx, hy] at ht
  · simp at ht
  · exact ⟨rfl, rfl⟩
  · exact absurd (lt_of_bit hy hx fun j hj => (hh j hj).symm) (Nat.lt_asymm h)
  · simp at ht
/-! ### the smaller of v and v ^ r -/
theorem min_is {v r : Nat} (hr : r ≠ 0) : min v (v ^^^ r) = if v.testBit r.log2 = true then v ^^^ r else v := by
  have hb := tb_log hr
  have hh : ∀ j, r.log2 < j → (v ^^^ r).testBit j = v.testBit j := fun j hj => by rw [Nat.testBit_xor, tb_above hj, Bool.xor_false]
  cases hv : v.testBit r.log2
  · rw [if_neg (by decide)]
    have : v < v ^^^ r := lt_of_bit hv (by rw [Nat.testBit_xor, hv, hb]; rfl) fun j hj => (hh j hj).symm
    omega
  · rw [if_pos rfl]
    have : v ^^^ r < v := lt_of_bit (by rw [Nat.testBit_xor, hv, hb]; rfl) hv hh
    omega
theorem min_bit {v r : Nat} (hr : r ≠ 0) : (min v (v ^^^ r)).testBit r.log2 = false := by
  rw [min_is hr]
  split
  · rename_i h
    rw [Nat.testBit_xor, h, tb_log hr]
    rfl
  · rename_i h
    simpa using h
theorem min_other {v r i : Nat} (hr : r ≠ 0) (h : r.testBit i = false) : (min v (v ^^^ r)).testBit i = v.testBit i := by
  rw [min_is hr]
  split
  · rw [Nat.testBit_xor, h, Bool.xor_false]
  · rfl
/-! ### spans -/
def InS : List Nat → Nat → Prop
  | [], x => x = 0
  | v :: vs, x => InS vs x ∨ InS vs (x ^^^ v)
theorem ins_0 : ∀ vs, InS vs 0
  | [] => rfl
  | _ :: vs => .inl (ins_0 vs)
theorem ins_xor : ∀ {vs x y}, InS vs x → InS vs y → InS vs (x ^^^ y)
  | [], x, y, h1, h2 => by
    have e1 : x = 0 := h1
    have e2 : y = 0 := h2
    rw [e1, e2]
    rfl
  | v :: vs, x, y, h1, h2 => by
    have c1 : x ^^^ y ^^^ v = x ^^^ (y ^^^ v) := Nat.xor_assoc ..
    have c2 : x ^^^ y ^^^ v = (x ^^^ v) ^^^ y := by rw [Nat.xor_assoc, Nat.xor_comm y v, ← Nat.xor_assoc]
    have c3 : (x ^^^ v) ^^^ (y ^^^ v) = x ^^^ y := by
      rw [Nat.xor_comm y v, Nat.xor_assoc, ← Nat.xor_assoc v v y, Nat.xor_self, Nat.zero_xor]
    rcases h1 with h1 | h1 <;> rcases h2 with h2 | h2
    · exact .inl (ins_xor h1 h2)
    · exact .inr (c1 ▸ ins_xor h1 h2)
    · exact .inr (c2 ▸ ins_xor h1 h2)
    · exact .inl (c3 ▸ ins_xor h1 h2)
theorem ins_mem : ∀ {vs v}, v ∈ vs → InS vs v
  | w :: vs, v, h => by
    rcases List.mem_cons.mp h with rfl | h
    · exact .inr (by rw [Nat.xor_self]; exact ins_0 vs)
    · exact .inl (ins_mem h)
theorem ins_le : ∀ {vs ws : List Nat}, (∀ v ∈ vs, InS ws v) → ∀ {x}, InS vs x → InS ws x
  | [], ws, _, x, h => by
    have e : x = 0 := h
    rw [e]
    exact ins_0 ws
  | v :: vs, ws, hv, x, h => by
    have hv' := fun u hu => hv u (List.mem_cons_of_mem _ hu)
    rcases h with h | h
    · exact ins_le hv' h
    · have h1 := ins_xor (ins_le hv' h) (hv v (List.mem_cons_self ..))
      rw [Nat.xor_assoc, Nat.xor_self, Nat.xor_zero] at h1
      exact h1
theorem ins_bit {i : Nat} : ∀ {vs : List Nat}, (∀ v ∈ vs, v.testBit i = false) → ∀ {x}, InS vs x → x.testBit i = false
  | [], _, x, h => by
    have e : x = 0 := h
    rw [e, Nat.zero_testBit]
  | v :: vs, hv, x, h => by
    have hv' := fun u hu => hv u (List.mem_cons_of_mem _ hu)
    rcases h with h | h
    · exact ins_bit hv' h
    · have h1 := ins_bit hv' h
      rw [Nat.testBit_xor, hv v (List.mem_cons_self ..), Bool.xor_false] at h1
      exact h1
/-! ### reduced rows -/
def Apart (a b : Nat) : Prop := b.testBit a.log2 = false ∧ a.testBit b.log2 = false
structure Red (rows : List Nat) : Prop where
  pos : ∀ r ∈ rows, r ≠ 0
  ap : rows.Pairwise Apart
theorem Red.tail {r : Nat} {rows : List Nat} (h : Red (r :: rows)) : Red rows := ⟨fun x hx => h.pos x (List.mem_cons_of_mem _ hx), (List.pairwise_cons.mp h.ap).2⟩
/-- the highest bit of what is in the span is one of the rows' -/
theorem lead : ∀ {rows : List Nat}, Red rows → ∀ {y}, InS rows y → y ≠ 0 → ∃ r ∈ rows, r.log2 = y.log2
  | [], _, y, h, hy => absurd h hy
  | r :: rows, R, y, h, hy => by
    obtain ⟨ap, _⟩ := List.pairwise_cons.mp R.ap
    have hr := R.pos r (List.mem_cons_self ..)
    rcases h with h | h
    · obtain ⟨u, hu, e⟩ := lead R.tail h hy
      exact ⟨u, List.mem_cons_of_mem _ hu, e⟩
    · by_cases hz : y ^^^ r = 0
      · have e : y = r := Classical.byContradiction fun n => ne_bit n hz
        exact ⟨r, List.mem_cons_self .., by rw [e]⟩
      · obtain ⟨u, hu, e⟩ := lead R.tail h hz
        have hzr : (y ^^^ r).testBit r.log2 = false := ins_bit (fun v hv => (ap v hv).1) h
        have hru : r.testBit u.log2 = false := (ap u hu).2
        have ey : ∀ j, y.testBit j = ((y ^^^ r).testBit j ^^ r.testBit j) := fun j => by
          rw [Nat.testBit_xor]
          cases y.testBit j <;> cases r.testBit j <;> rfl
        rcases Nat.lt_trichotomy r.log2 u.log2 with c | c | c
        · refine ⟨u, List.mem_cons_of_mem _ hu, (log_of (i := u.log2) ?_ fun j hj => ?_).2.symm⟩
          · rw [ey, hru, e, tb_log hz]
            rfl
          · rw [ey, tb_above (by omega), tb_above (by omega)]
            rfl
        · rw [← c, tb_log hr] at hru
          cases hru
        · refine ⟨r, List.mem_cons_self .., (log_of (i := r.log2) ?_ fun j hj => ?_).2.symm⟩
          · rw [ey, hzr, tb_log hr]
            rfl
          · rw [ey, tb_above (by omega), tb_above (by omega)]
            rfl
theorem red_inj {rows : List Nat} (R : Red rows) : ∀ {a b}, a ∈ rows → b ∈ rows → a.testBit b.log2 = true → a = b := fun {a b} ha hb h => by
  obtain ⟨pos, ap⟩ := R
  induction rows with
  | nil => cases ha
  | cons r rows ih =>
    obtain ⟨a1, a2⟩ := List.pairwise_cons.mp ap
    rcases List.mem_cons.mp ha with ea | ha'
    · rcases List.mem_cons.mp hb with eb | hb'
      · rw [ea, eb]
      · rw [ea, (a1 b hb').2] at h
        cases h
    · rcases List.mem_cons.mp hb with eb | hb'
      · rw [eb, (a1 a ha').1] at h
        cases h
      · exact ih ha' hb' (fun x hx => pos x (List.mem_cons_of_mem _ hx)) a2
/-- each row is the least with its highest bit -/
theorem least {rows : List Nat} (R : Red rows) {r x : Nat} (hr : r ∈ rows) (hx : InS rows x) (e : x.log2 = r.log2) (h0 : x ≠ 0) : r ≤ x := by
  refine Nat.le_of_not_lt fun c => ?_
  obtain ⟨b1, b2⟩ := bit_of_lt c
  have hs : InS rows (x ^^^ r) := ins_xor hx (ins_mem hr)
  obtain ⟨u, hu, eu⟩ := lead R hs (ne_bit (Nat.ne_of_lt c))
  rw [← eu] at b1 b2
  have := red_inj R hr hu b2
  subst this
  rw [← e, tb_log h0] at b1
  cases b1
/-! ### the basis of a set, told by what it is -/
structure Can (S : Nat → Prop) (L : List Nat) : Prop where
  srt : L.Pairwise (· < ·)
  iff : ∀ x, x ∈ L ↔ (x ≠ 0 ∧ S x ∧ ∀ y, S y → y ≠ 0 → y.log2 = x.log2 → x ≤ y)
theorem sorted_ext : ∀ {a b : List Nat}, a.Pairwise (· < ·) → b.Pairwise (· < ·) → (∀ x, x ∈ a ↔ x ∈ b) → a = b
  | [], [], _, _, _ => rfl
  | [], y :: b, _, _, h => nomatch (h y).mpr (List.mem_cons_self ..)
  | x :: a, [], _, _, h => nomatch (h x).mp (List.mem_cons_self ..)
  | x :: a, y :: b, ha, hb, h => by
    obtain ⟨a1, a2⟩ := List.pairwise_cons.mp ha
    obtain ⟨b1, b2⟩ := List.pairwise_cons.mp hb
    have e : x = y := by
      rcases List.mem_cons.mp ((h x).mp (List.mem_cons_self ..)) with e | e
      · exact e
      · rcases List.mem_cons.mp ((h y).mpr (List.mem_cons_self ..)) with e2 | e2
        · exact e2.symm
        · have := b1 x e
          have := a1 y e2
          omega
    subst e
    rw [sorted_ext a2 b2 fun z => ⟨fun hz => ?_, fun hz => ?_⟩]
    · rcases List.mem_cons.mp ((h z).mp (List.mem_cons_of_mem _ hz)) with e | e
      · have := a1 z hz
        omega
      · exact e
    · rcases List.mem_cons.mp ((h z).mpr (List.mem_cons_of_mem _ hz)) with e | e
      · have := b1 z hz
        omega
      · exact e
theorem Can.eq {S T : Nat → Prop} {a b : List Nat} (ha : Can S a) (hb : Can T b) (h : ∀ x, S x ↔ T x) : a = b :=
  sorted_ext ha.srt hb.srt fun x => by
    rw [ha.iff, hb.iff, h]
    exact ⟨fun ⟨a, b, c⟩ => ⟨a, b, fun y q => c y ((h y).mpr q)⟩, fun ⟨a, b, c⟩ => ⟨a, b, fun y q => c y ((h y).mp q)⟩⟩
theorem red_can {rows : List Nat} (R : Red rows) (hs : rows.Pairwise (· < ·)) : Can (InS rows) rows := by
  refine ⟨hs, fun x => ⟨fun hx => ⟨R.pos x hx, ins_mem hx, fun y hy h0 e => least R hx hy e h0⟩, fun ⟨h0, hx, hl⟩ => ?_⟩⟩
  obtain ⟨r, hr, e⟩ := lead R hx h0
  have h1 := hl r (ins_mem hr) (R.pos r hr) e
  have h2 := least R hr hx e.symm h0
  have e2 : x = r := Nat.le_antisymm h1 h2
  rw [e2]
  exact hr
/-! ### remainders -/
def rem (rows : List Nat) (v : Nat) : Nat := rows.foldl (fun v r => min v (v ^^^ r)) v
theorem min_or (v r : Nat) : min v (v ^^^ r) = v ∨ min v (v ^^^ r) = v ^^^ r := by omega
theorem rem_in : ∀ (rows : List Nat) (v : Nat), InS rows (rem rows v ^^^ v)
  | [], v => by
    show v ^^^ v = 0
    rw [Nat.xor_self]
  | r :: rows, v => by
    have h := rem_in rows (min v (v ^^^ r))
    show InS rows (rem rows (min v (v ^^^ r)) ^^^ v) ∨ InS rows (rem rows (min v (v ^^^ r)) ^^^ v ^^^ r)
    rcases min_or v r with e | e <;> rw [e] at h ⊢
    · exact .inl h
    · exact .inr (by rw [Nat.xor_assoc]; exact h)
theorem rem_keeps {i : Nat} : ∀ {rows : List Nat} {v : Nat}, (∀ r ∈ rows, r ≠ 0) → (∀ r ∈ rows, r.testBit i = false) → (rem rows v).testBit i = v.testBit i
  | [], _, _, _ => rfl
  | r :: rows, v, h0, h => by
    show (rem rows (min v (v ^^^ r))).testBit i = _
    rw [rem_keeps (fun x hx => h0 x (List.mem_cons_of_mem _ hx)) (fun x hx => h x (List.mem_cons_of_mem _ hx)), min_other (h0 r (List.mem_cons_self ..)) (h r (List.mem_cons_self ..))]
theorem rem_clear : ∀ {rows : List Nat} {v : Nat}, Red rows → ∀ r ∈ rows, (rem rows v).testBit r.log2 = false
  | r :: rows, v, R, u, hu => by
    obtain ⟨ap, _⟩ := List.pairwise_cons.mp R.ap
    show (rem rows (min v (v ^^^ r))).testBit u.log2 = false
    rcases List.mem_cons.mp hu with rfl | hu
    · rw [rem_keeps R.tail.pos fun x hx => (ap x hx).1, min_bit (R.pos _ (List.mem_cons_self ..))]
    · exact rem_clear R.tail u hu
theorem rem_zero {rows : List Nat} (R : Red rows) (v : Nat) : rem rows v = 0 ↔ InS rows v := by
  constructor
  · intro h
    have := rem_in rows v
    rw [h, Nat.zero_xor] at this
    exact this
  · intro h
    refine Classical.byContradiction fun n => ?_
    have h1 := ins_xor (rem_in rows v) h
    rw [Nat.xor_assoc, Nat.xor_self, Nat.xor_zero] at h1
    obtain ⟨r, hr, e⟩ := lead R h1 n
    have := rem_clear (v := v) R r hr
    rw [e, tb_log n] at this
    cases this
/-! ### the loop that reduces -/
def step (rows : List Nat) (v : Nat) : List Nat := if 0 < rem rows v then rows.map (fun r => min r (r ^^^ rem rows v)) ++ [rem rows v] else rows
def red0 (vs : List Nat) : List Nat := vs.foldl step []
theorem min_log {r x : Nat} (hr : r ≠ 0) (hx : x ≠ 0) (h : x.testBit r.log2 = false) : min r (r ^^^ x) ≠ 0 ∧ (min r (r ^^^ x)).log2 = r.log2 := by
  refine log_of (by rw [min_other hx h, tb_log hr]) fun j hj => ?_
  rw [min_is hx]
  split
  · rename_i hb
    have := le_log hb
    rw [Nat.testBit_xor, tb_above hj, tb_above (by omega)]
    rfl
  · exact tb_above hj
theorem step_red {rows : List Nat} {v : Nat} (R : Red rows) : Red (step rows v) := by
  unfold step
  split
  · rename_i hp
    have hx : rem rows v ≠ 0 := Nat.ne_of_gt hp
    have cl := rem_clear (v := v) R
    generalize rem rows v = x at hx cl
    refine ⟨fun y hy => ?_, ?_⟩
    · rcases List.mem_append.mp hy with hy | hy
      · obtain ⟨r, hr, rfl⟩ := List.mem_map.mp hy
        exact (min_log (R.pos r hr) hx (cl r hr)).1
      · rw [List.mem_singleton.mp hy]
        exact hx
    · rw [List.pairwise_append]
      refine ⟨?_, List.pairwise_singleton .., fun a ha b hb => ?_⟩
      · rw [List.pairwise_map]
        refine List.Pairwise.imp_of_mem (fun {a b} ha hb h => ?_) R.ap
        have la := (min_log (R.pos a ha) hx (cl a ha)).2
        have lb := (min_log (R.pos b hb) hx (cl b hb)).2
        exact ⟨by rw [la, min_other hx (cl a ha)]; exact h.1, by rw [lb, min_other hx (cl b hb)]; exact h.2⟩
      · rw [List.mem_singleton.mp hb]
        obtain ⟨r, hr, rfl⟩ := List.mem_map.mp ha
        exact ⟨by rw [(min_log (R.pos r hr) hx (cl r hr)).2]; exact cl r hr, min_bit hx⟩
  · exact R
theorem step_span {rows : List Nat} {v : Nat} (R : Red rows) (x : Nat) : InS (step rows v) x ↔ InS (v :: rows) x := by
  have hv : InS (v :: rows) (rem rows v) := by
    have h1 : InS (v :: rows) (rem rows v ^^^ v) := .inl (rem_in rows v)
    have h2 := ins_xor h1 (ins_mem (List.mem_cons_self ..))
    rw [Nat.xor_assoc, Nat.xor_self, Nat.xor_zero] at h2
    exact h2
  unfold step
  split
  · constructor
    · refine ins_le fun u hu => ?_
      rcases List.mem_append.mp hu with hu | hu
      · obtain ⟨r, hr, rfl⟩ := List.mem_map.mp hu
        have hr' : InS (v :: rows) r := ins_mem (List.mem_cons_of_mem _ hr)
        rcases min_or r (rem rows v) with e | e <;> rw [e]
        · exact hr'
        · exact ins_xor hr' hv
      · rw [List.mem_singleton.mp hu]
        exact hv
    · have hX : InS (rows.map (fun r => min r (r ^^^ rem rows v)) ++ [rem rows v]) (rem rows v) := ins_mem (List.mem_append_right _ (List.mem_cons_self ..))
      have hR : ∀ r ∈ rows, InS (rows.map (fun r => min r (r ^^^ rem rows v)) ++ [rem rows v]) r := fun r hr => by
        have h1 : InS (rows.map (fun r => min r (r ^^^ rem rows v)) ++ [rem rows v]) (min r (r ^^^ rem rows v)) := ins_mem (List.mem_append_left _ (List.mem_map.mpr ⟨r, hr, rfl⟩))
        rcases min_or r (rem rows v) with e | e <;> rw [e] at h1
        · exact h1
        · have h2 := ins_xor h1 hX
          rw [Nat.xor_assoc, Nat.xor_self, Nat.xor_zero] at h2
          exact h2
      refine ins_le fun u hu => ?_
      rcases List.mem_cons.mp hu with rfl | hu
      · have h1 := ins_le hR (rem_in rows u)
        have h2 := ins_xor h1 hX
        rw [Nat.xor_comm (rem rows u) u, Nat.xor_assoc, Nat.xor_self, Nat.xor_zero] at h2
        exact h2
      · exact hR u hu
  · rename_i hp
    have h0 : rem rows v = 0 := by omega
    have hv0 := (rem_zero R v).mp h0
    constructor
    · exact fun h => .inl h
    · refine ins_le fun u hu => ?_
      rcases List.mem_cons.mp hu with rfl | hu
      · exact hv0
      · exact ins_mem hu
theorem foldl_red : ∀ (vs rows : List Nat), Red rows → Red (vs.foldl step rows) ∧ ∀ x, InS (vs.foldl step rows) x ↔ InS (vs ++ rows) x
  | [], rows, R => ⟨R, fun x => Iff.rfl⟩
  | v :: vs, rows, R => by
    obtain ⟨h1, h2⟩ := foldl_red vs (step rows v) (step_red R)
    refine ⟨h1, fun x => (h2 x).trans ?_⟩
    constructor
    · refine ins_le fun u hu => ?_
      rcases List.mem_append.mp hu with hu | hu
      · exact ins_mem (List.mem_cons_of_mem _ (List.mem_append_left _ hu))
      · refine ins_le (fun z hz => ?_) ((step_span R u).mp (ins_mem hu))
        rcases List.mem_cons.mp hz with rfl | hz
        · exact ins_mem (List.mem_cons_self ..)
        · exact ins_mem (List.mem_cons_of_mem _ (List.mem_append_right _ hz))
    · have hst : ∀ z, InS (step rows v) z → InS (vs ++ step rows v) z := fun z => ins_le fun y hy => ins_mem (List.mem_append_right _ hy)
      refine ins_le fun u hu => ?_
      rcases List.mem_cons.mp hu with rfl | hu
      · exact hst _ ((step_span R _).mpr (ins_mem (List.mem_cons_self ..)))
      · rcases List.mem_append.mp hu with hu | hu
        · exact ins_mem (List.mem_append_left _ hu)
        · exact hst _ ((step_span R _).mpr (ins_mem (List.mem_cons_of_mem _ hu)))
theorem red0_red (vs : List Nat) : Red (red0 vs) := (foldl_red vs [] ⟨fun _ h => (by cases h), List.Pairwise.nil⟩).1
theorem red0_span (vs : List Nat) (x : Nat) : InS (red0 vs) x ↔ InS vs x := by
  have := (foldl_red vs [] ⟨fun _ h => (by cases h), List.Pairwise.nil⟩).2 x
  rw [List.append_nil] at this
  exact this
theorem Red.perm {a b : List Nat} (R : Red a) (p : b.Perm a) : Red b :=
  ⟨fun x hx => R.pos x (p.mem_iff.mp hx), (p.pairwise_iff fun {x y} h => ⟨h.2, h.1⟩).mpr R.ap⟩
theorem span_perm {a b : List Nat} (p : b.Perm a) (x : Nat) : InS b x ↔ InS a x :=
  ⟨ins_le fun u hu => ins_mem (p.mem_iff.mp hu), ins_le fun u hu => ins_mem (p.mem_iff.mpr hu)⟩
theorem red_nodup {rows : List Nat} (R : Red rows) : rows.Nodup := by
  refine List.Pairwise.imp_of_mem (fun {a b} ha _ h e => ?_) R.ap
  subst e
  have := h.1
  rw [tb_log (R.pos a ha)] at this
  cases this
/-- sorted, the rows are the basis -/
theorem sorted_can {vs L : List Nat} (p : L.Perm (red0 vs)) (hs : L.Pairwise (· ≤ ·)) : Can (InS vs) L ∧ Red L := by
  have R := (red0_red vs).perm p
  have nd := red_nodup R
  have hlt : L.Pairwise (· < ·) := (hs.and nd).imp fun {a b} h => by
    have h2 : a ≠ b := h.2
    have h1 : a ≤ b := h.1
    omega
  have C := red_can R hlt
  refine ⟨⟨hlt, fun x => (C.iff x).trans ?_⟩, R⟩
  have e : ∀ y, InS L y ↔ InS vs y := fun y => (span_perm p y).trans (red0_span vs y)
  rw [e]
  exact ⟨fun ⟨a, b, c⟩ => ⟨a, b, fun y q => c y ((e y).mpr q)⟩, fun ⟨a, b, c⟩ => ⟨a, b, fun y q => c y ((e y).mp q)⟩⟩
end GF
set_option Elab.async false
set_option maxRecDepth 100000
/-! parity, the masks that are orthogonal to vectors -/
namespace GF
/-- how many one bits -/
def pc (n : Nat) : Nat := if h : n = 0 then 0 else n % 2 + pc (n / 2)
termination_by n
decreasing_by omega
theorem pc_0 : pc 0 = 0 := by rw [pc]; rfl
theorem pc_eq (n : Nat) : pc n = n % 2 + pc (n / 2) := by
  by_cases h : n = 0
  · subst h
    rw [pc_0]
  · rw [pc, dif_neg h]
def par (n : Nat) : Nat := pc n % 2
theorem par_0 : par 0 = 0 := by unfold par; rw [pc_0]
theorem par_eq (n : Nat) : par n = (n % 2 + par (n / 2)) % 2 := by
  unfold par
  rw [pc_eq n]
  omega
theorem par_lt (n : Nat) : par n < 2 := Nat.mod_lt _ (by decide)
theorem par_xor (a b : Nat) : par (a ^^^ b) = (par a + par b) % 2 := by
  induction a using Nat.strongRecOn generalizing b with
  | _ a ih =>
    by_cases h : a = 0
    · subst h
      rw [Nat.zero_xor, par_0]
      have := par_lt b
      omega
    · have e := ih (a / 2) (by omega) (b / 2)
      rw [par_eq (a ^^^ b), Nat.xor_div_two, e, par_eq a, par_eq b]
      have h1 := @Nat.xor_mod_two_eq_one a b
      omega
theorem par_pow : ∀ l, par (2 ^ l) = 1
  | 0 => by
    rw [par_eq]
    show (1 % 2 + par (1 / 2)) % 2 = 1
    rw [show (1 / 2 : Nat) = 0 from rfl, par_0]
  | l + 1 => by
    rw [par_eq, Nat.pow_succ, Nat.mul_mod_left, Nat.mul_div_cancel _ (by decide), par_pow l]
/-- the parity of a & b -/
def dot (a b : Nat) : Nat := par (a &&& b)
theorem dot_comm (a b : Nat) : dot a b = dot b a := by unfold dot; rw [Nat.and_comm]
theorem dot_xor_l (a b c : Nat) : dot (a ^^^ b) c = (dot a c + dot b c) % 2 := by unfold dot; rw [Nat.and_xor_distrib_right, par_xor]
theorem dot_xor_r (a b c : Nat) : dot a (b ^^^ c) = (dot a b + dot a c) % 2 := by unfold dot; rw [Nat.and_xor_distrib_left, par_xor]
theorem dot_0 (a : Nat) : dot a 0 = 0 := by unfold dot; rw [Nat.and_zero, par_0]
theorem and_pow (x l : Nat) : x &&& 2 ^ l = if x.testBit l = true then 2 ^ l else 0 := by
  apply Nat.eq_of_testBit_eq
  intro i
  rw [Nat.testBit_and, Nat.testBit_two_pow]
  by_cases e : l = i
  · subst e
    cases h : x.testBit l
    · rw [if_neg (by decide), Nat.zero_testBit]
      rfl
    · rw [if_pos rfl, Nat.testBit_two_pow]
      rfl
  · rw [decide_eq_false e, Bool.and_false]
    split
    · rw [Nat.testBit_two_pow, decide_eq_false e]
    · rw [Nat.zero_testBit]
def has (x l : Nat) : Nat := if x.testBit l = true then 1 else 0
theorem dot_pow (x l : Nat) : dot x (2 ^ l) = has x l := by
  unfold dot has
  rw [and_pow]
  split
  · exact par_pow l
  · exact par_0
theorem ins_dot {m : Nat} : ∀ {vs : List Nat}, (∀ v ∈ vs, dot v m = 0) → ∀ {x}, InS vs x → dot x m = 0
  | [], _, x, h => by
    have e : x = 0 := h
    rw [e, dot_comm, dot_0]
  | v :: vs, hv, x, h => by
    have hv' := fun u hu => hv u (List.mem_cons_of_mem _ hu)
    rcases h with h | h
    · exact ins_dot hv' h
    · have h1 := ins_dot hv' h
      rw [dot_xor_l, hv v (List.mem_cons_self ..)] at h1
      have : dot x m < 2 := par_lt _
      omega
theorem add_pow {n l : Nat} (h : n.testBit l = false) : n + 2 ^ l = n ^^^ 2 ^ l := by
  have e := Bits.nat_xor_add_and n (2 ^ l)
  rw [and_pow, if_neg (by rw [h]; decide)] at e
  omega
/-- powers of two added, one by one, where there was none -/
theorem add_pows (x w : Nat) : ∀ (ls : List Nat) (n : Nat), ls.Nodup → (∀ l ∈ ls, n.testBit l = false ∧ l < w) → n < 2 ^ w →
    dot x (n + (ls.map (2 ^ ·)).sum) = (dot x n + (ls.map (has x)).sum) % 2 ∧ n + (ls.map (2 ^ ·)).sum < 2 ^ w ∧ ∀ i, i ∉ ls → (n + (ls.map (2 ^ ·)).sum).testBit i = n.testBit i
  | [], n, _, _, hn => by
    have : dot x n < 2 := par_lt _
    refine ⟨?_, hn, fun _ _ => rfl⟩
    show dot x n = (dot x n + 0) % 2
    omega
  | l :: ls, n, nd, h, hn => by
    obtain ⟨h1, h2⟩ := List.nodup_cons.mp nd
    obtain ⟨hb, hw⟩ := h l (List.mem_cons_self ..)
    have e : n + 2 ^ l = n ^^^ 2 ^ l := add_pow hb
    have hlt : n ^^^ 2 ^ l < 2 ^ w := Nat.xor_lt_two_pow hn (Nat.pow_lt_pow_right (by decide) hw)
    have hbits : ∀ i, i ≠ l → (n ^^^ 2 ^ l).testBit i = n.testBit i := fun i hi => by
      rw [Nat.testBit_xor, Nat.testBit_two_pow, decide_eq_false (Ne.symm hi), Bool.xor_false]
    obtain ⟨i1, i2, i3⟩ := add_pows x w ls (n ^^^ 2 ^ l) h2 (fun k hk => by
      have hne : k ≠ l := fun z => h1 (z ▸ hk)
      rw [hbits k hne]
      exact h k (List.mem_cons_of_mem _ hk)) hlt
    have e2 : n + ((l :: ls).map (2 ^ ·)).sum = (n ^^^ 2 ^ l) + (ls.map (2 ^ ·)).sum := by
      rw [List.map_cons, List.sum_cons, ← e]
      omega
    rw [e2]
    refine ⟨?_, i2, fun i hi => ?_⟩
    · rw [i1, dot_xor_r, dot_pow, List.map_cons, List.sum_cons]
      omega
    · rw [i3 i fun z => hi (List.mem_cons_of_mem _ z), hbits i fun z => hi (z ▸ List.mem_cons_self ..)]
/-! ### the masks -/
def mk (L : List Nat) (j : Nat) : Nat := 2 ^ j + ((L.filter fun r => r.testBit j).map fun r => 2 ^ r.log2).sum
def isFree (L : List Nat) (j : Nat) : Prop := ∀ r ∈ L, r.log2 ≠ j
section
variable {L : List Nat} {w : Nat}
theorem red_logs (R : Red L) : (L.map Nat.log2).Nodup := by
  refine List.pairwise_map.mpr (List.Pairwise.imp_of_mem (fun {a b} ha hb h e => ?_) R.ap)
  have := h.1
  rw [e, tb_log (R.pos b hb)] at this
  cases this
theorem mk_all (R : Red L) (hw : ∀ r ∈ L, r < 2 ^ w) {j : Nat} (hj : j < w) (hf : isFree L j) (x : Nat) :
    dot x (mk L j) = (has x j + ((L.filter fun r => r.testBit j).map fun r => has x r.log2).sum) % 2 ∧ mk L j < 2 ^ w ∧ (∀ i, isFree L i → (mk L j).testBit i = decide (j = i)) := by
  have nd : ((L.filter fun r => r.testBit j).map Nat.log2).Nodup := (red_logs R).sublist (List.Sublist.map _ List.filter_sublist)
  obtain ⟨h1, h2, h3⟩ := add_pows x w ((L.filter fun r => r.testBit j).map Nat.log2) (2 ^ j) nd (fun l hl => by
    obtain ⟨r, hr, rfl⟩ := List.mem_map.mp hl
    have hr' := (List.mem_filter.mp hr).1
    refine ⟨?_, (Nat.log2_lt (R.pos r hr')).mpr (hw r hr')⟩
    rw [Nat.testBit_two_pow]
    exact decide_eq_false (fun z => hf r hr' z.symm)) (Nat.pow_lt_pow_right (by decide) hj)
  rw [List.map_map] at h1 h2 h3
  rw [List.map_map, dot_pow] at h1
  refine ⟨h1, h2, fun i hi => ?_⟩
  have e := h3 i (fun z => by
    obtain ⟨r, hr, e⟩ := List.mem_map.mp z
    exact hi r (List.mem_filter.mp hr).1 e)
  rw [Nat.testBit_two_pow] at e
  exact e
theorem sum_own : ∀ {L : List Nat}, Red L → ∀ {x}, x ∈ L → ∀ j, ((L.filter fun r => r.testBit j).map fun r => has x r.log2).sum = has x j
  | r :: L, R, x, hx, j => by
    obtain ⟨ap, _⟩ := List.pairwise_cons.mp R.ap
    have zero : ∀ (M : List Nat), (∀ u ∈ M, x.testBit u.log2 = false) → ((M.filter fun r => r.testBit j).map fun r => has x r.log2).sum = 0 := by
      intro M
      induction M with
      | nil => intro _; rfl
      | cons u M ih =>
        intro hM
        have i1 := ih fun z hz => hM z (List.mem_cons_of_mem _ hz)
        rw [List.filter_cons]
        split
        · rw [List.map_cons, List.sum_cons, i1]
          unfold has
          rw [hM u (List.mem_cons_self ..)]
          rfl
        · exact i1
    rw [List.filter_cons]
    rcases List.mem_cons.mp hx with rfl | hx
    · have z := zero L fun u hu => (ap u hu).2
      split
      · rename_i hj
        rw [List.map_cons, List.sum_cons, z]
        unfold has
        rw [tb_log (R.pos x (List.mem_cons_self ..)), hj]
        rfl
      · rename_i hj
        rw [z]
        unfold has
        rw [if_neg hj]
    · have i1 := sum_own R.tail hx j
      have hz : has x r.log2 = 0 := by
        unfold has
        rw [(ap x hx).1]
        rfl
      split
      · rw [List.map_cons, List.sum_cons, i1, hz]
        omega
      · exact i1
/-- orthogonal to all of them -/
def Orth (vs : List Nat) (m : Nat) : Prop := ∀ v ∈ vs, dot v m = 0
theorem mk_orth (R : Red L) (hw : ∀ r ∈ L, r < 2 ^ w) {j : Nat} (hj : j < w) (hf : isFree L j) : Orth L (mk L j) := fun x hx => by
  rw [(mk_all R hw hj hf x).1, sum_own R hx]
  omega
theorem orth_xor {vs : List Nat} {a b : Nat} (ha : Orth vs a) (hb : Orth vs b) : Orth vs (a ^^^ b) := fun v hv => by
  rw [dot_xor_r, ha v hv, hb v hv]
/-- free bits cleared, one by one -/
def clean (L : List Nat) : List Nat → Nat → Nat
  | [], m => m
  | j :: js, m => clean L js (if m.testBit j = true then m ^^^ mk L j else m)
theorem clean_all (R : Red L) (hw : ∀ r ∈ L, r < 2 ^ w) (M : List Nat) : ∀ (js : List Nat) (m : Nat), (∀ j ∈ js, j < w ∧ isFree L j ∧ mk L j ∈ M) → m < 2 ^ w → Orth L m →
    clean L js m < 2 ^ w ∧ Orth L (clean L js m) ∧ InS M (clean L js m ^^^ m) ∧ (∀ j ∈ js, (clean L js m).testBit j = false) ∧ (∀ i, isFree L i → m.testBit i = false → (clean L js m).testBit i = false)
  | [], m, _, hm, ho => ⟨hm, ho, by show InS M (m ^^^ m); rw [Nat.xor_self]; exact ins_0 M, (fun _ h => by cases h), fun _ _ h => h⟩
  | j :: js, m, hj, hm, ho => by
    obtain ⟨j1, j2, j3⟩ := hj j (List.mem_cons_self ..)
    have hj' := fun k hk => hj k (List.mem_cons_of_mem _ hk)
    have mb := (mk_all R hw j1 j2 0).2
    show clean L js _ < 2 ^ w ∧ Orth L (clean L js _) ∧ InS M (clean L js _ ^^^ m) ∧ (∀ k ∈ j :: js, (clean L js _).testBit k = false) ∧ _
    cases hb : m.testBit j
    · rw [if_neg (by decide)]
      obtain ⟨a1, a2, a3, a4, a5⟩ := clean_all R hw M js m hj' hm ho
      refine ⟨a1, a2, a3, fun k hk => ?_, fun i hi h => ?_⟩
      · rcases List.mem_cons.mp hk with rfl | hk
        · exact a5 _ j2 hb
        · exact a4 k hk
      · show (clean L js _).testBit i = false
        rw [if_neg (by rw [hb]; decide)]
        exact a5 i hi h
    · rw [if_pos rfl]
      obtain ⟨a1, a2, a3, a4, a5⟩ := clean_all R hw M js (m ^^^ mk L j) hj' (Nat.xor_lt_two_pow hm mb.1) (orth_xor ho (mk_orth R hw j1 j2))
      refine ⟨a1, a2, ?_, fun k hk => ?_, fun i hi h => ?_⟩
      · have := ins_xor a3 (ins_mem j3)
        rw [← Nat.xor_assoc, Nat.xor_assoc, Nat.xor_self, Nat.xor_zero] at this
        exact this
      · rcases List.mem_cons.mp hk with rfl | hk
        · refine a5 _ j2 ?_
          rw [Nat.testBit_xor, hb, mb.2 _ j2, decide_eq_true rfl]
          rfl
        · exact a4 k hk
      · show (clean L js _).testBit i = false
        rw [if_pos hb]
        refine a5 i hi ?_
        have hne : j ≠ i := fun z => by rw [z] at hb; rw [hb] at h; cases h
        rw [Nat.testBit_xor, h, mb.2 i hi, decide_eq_false hne]
        rfl
/-- orthogonal, and no free bit: nothing -/
theorem no_free (R : Red L) {m : Nat} (ho : Orth L m) (h : ∀ i, isFree L i → m.testBit i = false) : m = 0 := by
  refine Classical.byContradiction fun n => ?_
  obtain ⟨i, hi⟩ := Nat.exists_testBit_of_ne_zero n
  have hex : ∃ r ∈ L, r.log2 = i := Classical.byContradiction fun q => by
    have : isFree L i := fun r hr e => q ⟨r, hr, e⟩
    rw [h i this] at hi
    cases hi
  obtain ⟨r, hr, rfl⟩ := hex
  have e : r &&& m = 2 ^ r.log2 := by
    apply Nat.eq_of_testBit_eq
    intro k
    rw [Nat.testBit_and, Nat.testBit_two_pow]
    by_cases hk : r.log2 = k
    · rw [← hk, tb_log (R.pos r hr), hi, decide_eq_true rfl]
      rfl
    · rw [decide_eq_false hk]
      cases h1 : r.testBit k
      · rfl
      · cases h2 : m.testBit k
        · rfl
        · exfalso
          have hex : ∃ u ∈ L, u.log2 = k := Classical.byContradiction fun q => by
            have : isFree L k := fun r hr e => q ⟨r, hr, e⟩
            rw [h k this] at h2
            cases h2
          obtain ⟨u, hu, rfl⟩ := hex
          exact hk (by rw [red_inj R hr hu h1])
  have := ho r hr
  unfold dot at this
  rw [e, par_pow] at this
  cases this
/-- the masks span all that is orthogonal -/
theorem masks_span (R : Red L) (hw : ∀ r ∈ L, r < 2 ^ w) {js : List Nat} (hjs : ∀ j, j ∈ js ↔ j < w ∧ isFree L j) (m : Nat) : InS (js.map (mk L)) m ↔ m < 2 ^ w ∧ Orth L m := by
  have hall : ∀ j ∈ js, j < w ∧ isFree L j ∧ mk L j ∈ js.map (mk L) := fun j hj => ⟨((hjs j).mp hj).1, ((hjs j).mp hj).2, List.mem_map.mpr ⟨j, hj, rfl⟩⟩
  constructor
  · have key : ∀ (ks : List Nat), (∀ j ∈ ks, j < w ∧ isFree L j) → ∀ {m}, InS (ks.map (mk L)) m → m < 2 ^ w ∧ Orth L m := by
      intro ks
      induction ks with
      | nil =>
        intro _ m h
        have e : m = 0 := h
        rw [e]
        exact ⟨Nat.two_pow_pos w, fun v _ => dot_0 v⟩
      | cons k ks ih =>
        intro hk m h
        have hk' := @ih fun j hj => hk j (List.mem_cons_of_mem _ hj)
        obtain ⟨k1, k2⟩ := hk k (List.mem_cons_self ..)
        rcases h with h | h
        · exact hk' h
        · obtain ⟨a, b⟩ := hk' h
          have c1 := Nat.xor_lt_two_pow a (mk_all R hw k1 k2 0).2.1
          have c2 := orth_xor b (mk_orth R hw k1 k2)
          rw [Nat.xor_assoc, Nat.xor_self, Nat.xor_zero] at c1 c2
          exact ⟨c1, c2⟩
    exact key js fun j hj => (hjs j).mp hj
  · rintro ⟨hm, ho⟩
    obtain ⟨a1, a2, a3, a4, a5⟩ := clean_all R hw (js.map (mk L)) js m hall hm ho
    have z : clean L js m = 0 := no_free R a2 fun i hi => by
      by_cases hiw : i < w
      · exact a4 i ((hjs i).mpr ⟨hiw, hi⟩)
      · exact Nat.testBit_lt_two_pow (Nat.lt_of_lt_of_le a1 (Nat.pow_le_pow_right (by decide) (by omega)))
    rw [z, Nat.zero_xor] at a3
    exact a3
theorem orth_span {vs L : List Nat} (h : ∀ x, InS L x ↔ InS vs x) (m : Nat) : Orth L m ↔ Orth vs m :=
  ⟨fun ho v hv => ins_dot ho ((h v).mpr (ins_mem hv)), fun ho v hv => ins_dot ho ((h v).mp (ins_mem hv))⟩
theorem rem_lt {rows : List Nat} (hw : ∀ r ∈ rows, r < 2 ^ w) : ∀ {v}, v < 2 ^ w → rem rows v < 2 ^ w := fun {v} hv => by
  induction rows generalizing v with
  | nil => exact hv
  | cons r rows ih =>
    refine ih (fun x hx => hw x (List.mem_cons_of_mem _ hx)) ?_
    show min v (v ^^^ r) < 2 ^ w
    rcases min_or v r with e | e <;> rw [e]
    · exact hv
    · exact Nat.xor_lt_two_pow hv (hw r (List.mem_cons_self ..))
theorem ins_lt {w : Nat} : ∀ {vs : List Nat}, (∀ v ∈ vs, v < 2 ^ w) → ∀ {x}, InS vs x → x < 2 ^ w
  | [], _, x, h => by
    have e : x = 0 := h
    rw [e]
    exact Nat.two_pow_pos w
  | v :: vs, hv, x, h => by
    have hv' := fun u hu => hv u (List.mem_cons_of_mem _ hu)
    rcases h with h | h
    · exact ins_lt hv' h
    · have h1 := Nat.xor_lt_two_pow (ins_lt hv' h) (hv v (List.mem_cons_self ..))
      rw [Nat.xor_assoc, Nat.xor_self, Nat.xor_zero] at h1
      exact h1
/-- what is orthogonal to all that is orthogonal is in the span -/
theorem orth_orth (R : Red L) (hw : ∀ r ∈ L, r < 2 ^ w) {A : List Nat} (hA : ∀ m, InS A m ↔ m < 2 ^ w ∧ Orth L m) {x : Nat} (hx : x < 2 ^ w) : Orth A x ↔ InS L x := by
  constructor
  · intro ho
    refine (rem_zero R x).mp (Classical.byContradiction fun n => ?_)
    obtain ⟨j, hj⟩ := Nat.exists_testBit_of_ne_zero n
    have hlt := rem_lt hw hx
    have hjw : j < w := Nat.lt_of_not_le fun c => by
      rw [Nat.testBit_lt_two_pow (Nat.lt_of_lt_of_le hlt (Nat.pow_le_pow_right (by decide) c))] at hj
      cases hj
    have hf : isFree L j := fun r hr e => by
      have := rem_clear (v := x) R r hr
      rw [e, hj] at this
      cases this
    have hm := (hA (mk L j)).mpr ⟨(mk_all R hw hjw hf 0).2.1, mk_orth R hw hjw hf⟩
    have e1 : dot (mk L j) (rem L x) = (dot (mk L j) (rem L x ^^^ x) + dot (mk L j) x) % 2 := by
      rw [← dot_xor_r, Nat.xor_assoc, Nat.xor_self, Nat.xor_zero]
    have e2 : dot (mk L j) x = 0 := ins_dot ho hm
    have e3 : dot (mk L j) (rem L x ^^^ x) = 0 := by
      rw [dot_comm]
      exact ins_dot (mk_orth R hw hjw hf) (rem_in L x)
    have e4 := (mk_all R hw hjw hf (rem L x)).1
    rw [dot_comm, e1, e2, e3] at e4
    have e5 : ((L.filter fun r => r.testBit j).map fun r => has (rem L x) r.log2).sum = 0 := by
      have : ∀ M : List Nat, (∀ r ∈ M, r ∈ L) → ((M.filter fun r => r.testBit j).map fun r => has (rem L x) r.log2).sum = 0 := by
        intro M
        induction M with
        | nil => intro _; rfl
        | cons u M ih =>
          intro hM
          have i1 := ih fun z hz => hM z (List.mem_cons_of_mem _ hz)
          rw [List.filter_cons]
          split
          · rw [List.map_cons, List.sum_cons, i1]
            unfold has
            rw [rem_clear R u (hM u (List.mem_cons_self ..))]
            rfl
          · exact i1
      exact this L fun _ h => h
    rw [e5] at e4
    unfold has at e4
    rw [hj] at e4
    simp at e4
  · intro hi a ha
    rw [dot_comm]
    exact ins_dot ((hA a).mp (ins_mem ha)).2 hi
end
end GF
set_option Elab.async false
set_option maxRecDepth 100000
/-! the elements of a span, one by one; the least of them -/
namespace GF
theorem xor_cancel (x v : Nat) : x ^^^ v ^^^ v = x := by rw [Nat.xor_assoc, Nat.xor_self, Nat.xor_zero]
theorem xor_cancel' (x v : Nat) : v ^^^ (v ^^^ x) = x := by rw [← Nat.xor_assoc, Nat.xor_self, Nat.zero_xor]
theorem ins_snoc {ws : List Nat} {v x : Nat} : InS (ws ++ [v]) x ↔ InS ws x ∨ InS ws (x ^^^ v) := by
  have p : (ws ++ [v]).Perm (v :: ws) := List.perm_append_comm
  exact span_perm p x
/-- a list of all elements -/
structure Els (s : List Nat) (ws : List Nat) : Prop where
  nd : s.Nodup
  iff : ∀ x, x ∈ s ↔ InS ws x
theorem els_0 : Els [0] [] := ⟨by simp, fun x => by rw [List.mem_singleton]; exact Iff.rfl⟩
theorem Els.old {s ws : List Nat} {v : Nat} (e : Els s ws) (h : InS ws v) : Els s (ws ++ [v]) := by
  refine ⟨e.nd, fun x => ?_⟩
  rw [e.iff, ins_snoc]
  refine ⟨.inl, fun q => q.elim id fun q => ?_⟩
  have := ins_xor q h
  rw [xor_cancel] at this
  exact this
theorem Els.new {s ws : List Nat} {v : Nat} (e : Els s ws) (h : ¬ InS ws v) : Els (s ++ s.map fun x => x ^^^ v) (ws ++ [v]) := by
  refine ⟨?_, fun x => ?_⟩
  · rw [List.nodup_append]
    refine ⟨e.nd, ?_, fun a ha b hb hab => ?_⟩
    · unfold List.Nodup
      rw [List.pairwise_map]
      refine e.nd.imp fun {a b} hab q => hab ?_
      rw [← xor_cancel a v, q, xor_cancel]
    · obtain ⟨c, hc, rfl⟩ := List.mem_map.mp hb
      subst hab
      have h1 := ins_xor ((e.iff c).mp hc) ((e.iff _).mp ha)
      rw [xor_cancel'] at h1
      exact h h1
  · rw [List.mem_append, ins_snoc, e.iff]
    refine or_congr Iff.rfl ⟨fun q => ?_, fun q => ?_⟩
    · obtain ⟨c, hc, rfl⟩ := List.mem_map.mp q
      rw [xor_cancel]
      exact (e.iff c).mp hc
    · exact List.mem_map.mpr ⟨x ^^^ v, (e.iff _).mpr q, xor_cancel x v⟩
theorem Els.perm {s t ws us : List Nat} (a : Els s ws) (b : Els t us) (h : ∀ x, InS ws x ↔ InS us x) : s.Perm t :=
  (List.perm_ext_iff_of_nodup a.nd b.nd).mpr fun x => by rw [a.iff, b.iff, h]
/-- a row is not in the span of the others -/
theorem red_take {rows : List Nat} (R : Red rows) {i r : Nat} (h : rows[i]? = some r) : ¬ InS (rows.take i) r := fun q => by
  have hi := (List.getElem?_eq_some_iff.mp h).1
  have hr : r ∈ rows := List.mem_of_getElem? h
  have hz : ∀ v ∈ rows.take i, v.testBit r.log2 = false := fun v hv => by
    have e : rows = rows.take i ++ r :: rows.drop (i + 1) := by
      conv => lhs; rw [← List.take_append_drop i rows]
      congr 1
      rw [List.drop_eq_getElem_cons hi]
      congr 1
      exact (List.getElem?_eq_some_iff.mp h).2
    have ap := R.ap
    rw [e, List.pairwise_append] at ap
    exact (ap.2.2 v hv r (List.mem_cons_self ..)).2
  have := ins_bit hz q
  rw [tb_log (R.pos r hr)] at this
  cases this
/-- sorted, with nothing twice: ascending -/
theorem asc {s L : List Nat} (p : L.Perm s) (nd : s.Nodup) (hs : L.Pairwise (· ≤ ·)) : L.Pairwise (· < ·) :=
  (hs.and (p.nodup_iff.mpr nd)).imp fun {a b} h => by
    have h2 : a ≠ b := h.2
    have h1 : a ≤ b := h.1
    omega
/-- all elements, ascending -/
structure All (E : List Nat) (ws : List Nat) : Prop where
  srt : E.Pairwise (· < ·)
  iff : ∀ x, x ∈ E ↔ InS ws x
theorem Els.all {s L ws : List Nat} (e : Els s ws) (p : L.Perm s) (hs : L.Pairwise (· ≤ ·)) : All L ws := ⟨asc p e.nd hs, fun x => by rw [p.mem_iff, e.iff]⟩
theorem All.eq {E F ws us : List Nat} (a : All E ws) (b : All F us) (h : ∀ x, InS ws x ↔ InS us x) : E = F := sorted_ext a.srt b.srt fun x => by rw [a.iff, b.iff, h]
theorem All.zero {E ws : List Nat} (a : All E ws) : ∃ F, E = 0 :: F ∧ F.Pairwise (· < ·) ∧ ∀ x, x ∈ F ↔ (x ≠ 0 ∧ InS ws x) := by
  have h0 : 0 ∈ E := (a.iff 0).mpr (ins_0 ws)
  have hs := a.srt
  have hi := a.iff
  cases E with
  | nil => cases h0
  | cons y F =>
    obtain ⟨h1, h2⟩ := List.pairwise_cons.mp hs
    have hy : y = 0 := by
      rcases List.mem_cons.mp h0 with e | e
      · exact e.symm
      · have := h1 0 e
        omega
    subst hy
    refine ⟨F, rfl, h2, fun x => ⟨fun hx => ⟨?_, (hi x).mp (List.mem_cons_of_mem _ hx)⟩, fun ⟨n, hx⟩ => ?_⟩⟩
    · have := h1 x hx
      omega
    · rcases List.mem_cons.mp ((hi x).mpr hx) with e | e
      · exact absurd e n
      · exact e
/-! ### the least ones, as they are found -/
theorem log_mono {a b : Nat} (ha : 0 < a) (h : a ≤ b) : a.log2 ≤ b.log2 := by
  refine Nat.le_of_not_lt fun c => ?_
  have h1 := Nat.log2_self_le (n := a) (by omega)
  have h2 := @Nat.lt_log2_self b
  have h3 := Nat.pow_le_pow_right (n := 2) (by decide) (show b.log2 + 1 ≤ a.log2 by omega)
  omega
structure Part (F : List Nat) (i : Nat) (C : List Nat) : Prop where
  srt : C.Pairwise (· < ·)
  lo : ∀ x ∈ C, x ∈ F.take i ∧ ∀ y ∈ F, y.log2 = x.log2 → x ≤ y
  ex : ∀ y ∈ F.take i, ∃ x ∈ C, x.log2 = y.log2
theorem part_0 (F : List Nat) : Part F 0 [] := ⟨List.Pairwise.nil, fun _ h => (by cases h), fun y h => (by rw [List.take_zero] at h; cases h)⟩
theorem take_mem {F : List Nat} {i e : Nat} (h : F[i]? = some e) {y : Nat} : y ∈ F.take (i + 1) ↔ y ∈ F.take i ∨ y = e := by
  rw [List.take_add_one, h, List.mem_append]
  show _ ∨ y ∈ [e] ↔ _
  rw [List.mem_singleton]
theorem part_no {F C : List Nat} {i e : Nat} (p : Part F i C) (h : F[i]? = some e) (q : ∃ x ∈ C, x.log2 = e.log2) : Part F (i + 1) C := by
  refine ⟨p.srt, fun x hx => ⟨(take_mem h).mpr (.inl (p.lo x hx).1), (p.lo x hx).2⟩, fun y hy => ?_⟩
  rcases (take_mem h).mp hy with z | rfl
  · exact p.ex y z
  · exact q
theorem take_lt {F : List Nat} (s : F.Pairwise (· < ·)) {i e y : Nat} (h : F[i]? = some e) (hy : y ∈ F.take i) : y < e := by
  obtain ⟨j, hj⟩ := List.getElem?_of_mem hy
  have hjl := (List.getElem?_eq_some_iff.mp hj).1
  rw [List.length_take] at hjl
  rw [List.getElem?_take_of_lt (by omega)] at hj
  obtain ⟨a, ha⟩ := List.getElem?_eq_some_iff.mp h
  obtain ⟨b, hb⟩ := List.getElem?_eq_some_iff.mp hj
  have := List.pairwise_iff_getElem.mp s j i b a (by omega)
  rw [ha, hb] at this
  exact this
theorem below {F : List Nat} (s : F.Pairwise (· < ·)) {i e y : Nat} (h : F[i]? = some e) (hy : y ∈ F) (c : y < e) : y ∈ F.take i := by
  obtain ⟨j, hj⟩ := List.getElem?_of_mem hy
  obtain ⟨a, ha⟩ := List.getElem?_eq_some_iff.mp h
  obtain ⟨b, hb⟩ := List.getElem?_eq_some_iff.mp hj
  have hij : j < i := Nat.lt_of_not_le fun z => by
    rcases Nat.lt_or_eq_of_le z with z | z
    · have := List.pairwise_iff_getElem.mp s i j a b z
      omega
    · subst z
      omega
  exact List.mem_of_getElem? (i := j) (by rw [List.getElem?_take_of_lt hij]; exact hj)
theorem part_new {F C : List Nat} {i e : Nat} (s : F.Pairwise (· < ·)) (p : Part F i C) (h : F[i]? = some e) (q : ∀ x ∈ C, x.log2 ≠ e.log2) : Part F (i + 1) (C ++ [e]) := by
  refine ⟨?_, fun x hx => ?_, fun y hy => ?_⟩
  · rw [List.pairwise_append]
    refine ⟨p.srt, List.pairwise_singleton .., fun a ha b hb => ?_⟩
    rw [List.mem_singleton.mp hb]
    exact take_lt s h (p.lo a ha).1
  · rcases List.mem_append.mp hx with hx | hx
    · exact ⟨(take_mem h).mpr (.inl (p.lo x hx).1), (p.lo x hx).2⟩
    · rw [List.mem_singleton.mp hx]
      refine ⟨(take_mem h).mpr (.inr rfl), fun y hy ey => Nat.le_of_not_lt fun c => ?_⟩
      obtain ⟨x, hx, ex⟩ := p.ex y (below s h hy c)
      exact q x hx (ex.trans ey)
  · rcases (take_mem h).mp hy with z | rfl
    · obtain ⟨x, hx, ex⟩ := p.ex y z
      exact ⟨x, List.mem_append_left _ hx, ex⟩
    · exact ⟨_, List.mem_append_right _ (List.mem_cons_self ..), rfl⟩
theorem part_can {F C ws : List Nat} (hF : ∀ x, x ∈ F ↔ (x ≠ 0 ∧ InS ws x)) (p : Part F F.length C) : Can (InS ws) C := by
  have lo := p.lo
  have ex := p.ex
  rw [List.take_length] at lo ex
  refine ⟨p.srt, fun x => ⟨fun hx => ?_, fun ⟨h0, hx, hl⟩ => ?_⟩⟩
  · obtain ⟨a, b⟩ := lo x hx
    obtain ⟨c, d⟩ := (hF x).mp a
    exact ⟨c, d, fun y hy h0 e => b y ((hF y).mpr ⟨h0, hy⟩) e⟩
  · obtain ⟨z, hz, ez⟩ := ex x ((hF x).mpr ⟨h0, hx⟩)
    obtain ⟨a, b⟩ := lo z hz
    obtain ⟨c, d⟩ := (hF z).mp a
    have h1 := hl z d c ez
    have h2 := b x ((hF x).mpr ⟨h0, hx⟩) ez.symm
    have e : x = z := Nat.le_antisymm h1 h2
    rw [e]
    exact hz
theorem part_logs {F C : List Nat} {i : Nat} (hF : ∀ x ∈ F, x ≠ 0) (p : Part F i C) : C.Pairwise fun a b => a.log2 < b.log2 := by
  refine List.Pairwise.imp_of_mem (fun {a b} ha hb h => ?_) p.srt
  have a0 := List.mem_of_mem_take (p.lo a ha).1
  have h1 := log_mono (Nat.pos_of_ne_zero (hF a a0)) (Nat.le_of_lt h)
  rcases Nat.lt_or_eq_of_le h1 with c | c
  · exact c
  · have := (p.lo b hb).2 a a0 c
    omega
theorem red_iff {rows : List Nat} (R : Red rows) (x : Nat) : x ∈ rows ↔ (x ≠ 0 ∧ InS rows x ∧ ∀ y, InS rows y → y ≠ 0 → y.log2 = x.log2 → x ≤ y) := by
  refine ⟨fun hx => ⟨R.pos x hx, ins_mem hx, fun y hy h0 e => least R hx hy e h0⟩, fun ⟨h0, hx, hl⟩ => ?_⟩
  obtain ⟨r, hr, e⟩ := lead R hx h0
  have h1 := hl r (ins_mem hr) (R.pos r hr) e
  have h2 := least R hr hx e.symm h0
  have e2 : x = r := Nat.le_antisymm h1 h2
  rw [e2]
  exact hr
theorem red_same {L M : List Nat} (RL : Red L) (RM : Red M) (h : ∀ x, InS L x ↔ InS M x) : L.Perm M := by
  refine (List.perm_ext_iff_of_nodup (red_nodup RL) (red_nodup RM)).mpr fun x => ?_
  rw [red_iff RL, red_iff RM, h]
  exact ⟨fun ⟨a, b, c⟩ => ⟨a, b, fun y q => c y ((h y).mpr q)⟩, fun ⟨a, b, c⟩ => ⟨a, b, fun y q => c y ((h y).mp q)⟩⟩
end GF
set_option Elab.async false
set_option maxRecDepth 100000
/-! how many there are -/
namespace GF
/-- none is in the span of those ahead of it -/
def Indep (ws : List Nat) : Prop := ∀ i r, ws[i]? = some r → ¬ InS (ws.take i) r
theorem indep_take {ws : List Nat} (h : Indep ws) : ∀ i, i ≤ ws.length → ∃ s, Els s (ws.take i) ∧ s.length = 2 ^ i
  | 0, _ => ⟨[0], els_0, rfl⟩
  | i + 1, hi => by
    obtain ⟨s, e, l⟩ := indep_take h i (by omega)
    have hx : ws[i]? = some ws[i] := List.getElem?_eq_getElem (by omega)
    refine ⟨s ++ s.map (fun x => x ^^^ ws[i]), ?_, ?_⟩
    · rw [List.take_add_one, hx]
      exact e.new (h i _ hx)
    · rw [List.length_append, List.length_map, l, Nat.pow_succ]
      omega
theorem indep_els {ws : List Nat} (h : Indep ws) : ∃ s, Els s ws ∧ s.length = 2 ^ ws.length := by
  obtain ⟨s, e, l⟩ := indep_take h ws.length (Nat.le_refl _)
  rw [List.take_length] at e
  exact ⟨s, e, l⟩
theorem indep_len {a b : List Nat} (ha : Indep a) (hb : Indep b) (h : ∀ x, InS a x ↔ InS b x) : a.length = b.length := by
  obtain ⟨s, e, l⟩ := indep_els ha
  obtain ⟨t, f, m⟩ := indep_els hb
  have := (e.perm f h).length_eq
  rw [l, m] at this
  have e2 := congrArg Nat.log2 this
  rw [Nat.log2_two_pow, Nat.log2_two_pow] at e2
  exact e2
theorem red_indep {L : List Nat} (R : Red L) : Indep L := fun _ _ h => red_take R h
theorem mks_indep {L : List Nat} {w : Nat} (R : Red L) (hw : ∀ r ∈ L, r < 2 ^ w) {js : List Nat} (nd : js.Nodup) (hjs : ∀ j, j ∈ js ↔ j < w ∧ isFree L j) : Indep (js.map (mk L)) := fun i r h q => by
  rw [List.getElem?_map] at h
  cases e : js[i]? with
  | none =>
    rw [e] at h
    cases h
  | some j =>
    rw [e] at h
    cases h
    obtain ⟨hj, hf⟩ := (hjs j).mp (List.mem_of_getElem? e)
    have hb := (mk_all R hw hj hf 0).2.2 j hf
    rw [decide_eq_true rfl] at hb
    have hz : ∀ v ∈ (js.map (mk L)).take i, v.testBit j = false := fun v hv => by
      rw [← List.map_take] at hv
      obtain ⟨k, hk, rfl⟩ := List.mem_map.mp hv
      obtain ⟨k1, k2⟩ := (hjs k).mp (List.mem_of_mem_take hk)
      rw [(mk_all R hw k1 k2 0).2.2 j hf]
      refine decide_eq_false fun z => ?_
      subst z
      obtain ⟨m, hm⟩ := List.getElem?_of_mem hk
      have hml := (List.getElem?_eq_some_iff.mp hm).1
      rw [List.length_take] at hml
      rw [List.getElem?_take_of_lt (by omega)] at hm
      obtain ⟨a, ha⟩ := List.getElem?_eq_some_iff.mp e
      obtain ⟨b, hb⟩ := List.getElem?_eq_some_iff.mp hm
      have := List.pairwise_iff_getElem.mp nd m i b a (by omega)
      exact this (hb.trans ha.symm)
    rw [ins_bit hz q] at hb
    cases hb
theorem free_count {L : List Nat} {w : Nat} (R : Red L) (hw : ∀ r ∈ L, r < 2 ^ w) {js : List Nat} (nd : js.Nodup) (hjs : ∀ j, j ∈ js ↔ j < w ∧ isFree L j) : js.length + L.length = w := by
  have p : (js ++ L.map Nat.log2).Perm (List.range w) := by
    refine (List.perm_ext_iff_of_nodup ?_ List.nodup_range).mpr fun j => ?_
    · rw [List.nodup_append]
      refine ⟨nd, red_logs R, fun a ha b hb z => ?_⟩
      subst z
      obtain ⟨r, hr, e⟩ := List.mem_map.mp hb
      exact ((hjs a).mp ha).2 r hr e
    · rw [List.mem_append, List.mem_range, hjs]
      constructor
      · rintro (h | h)
        · exact h.1
        · obtain ⟨r, hr, e⟩ := List.mem_map.mp h
          rw [← e]
          exact (Nat.log2_lt (R.pos r hr)).mpr (hw r hr)
      · intro h
        by_cases f : isFree L j
        · exact .inl ⟨h, f⟩
        · refine .inr (Classical.byContradiction fun n => f fun r hr e => n (List.mem_map.mpr ⟨r, hr, e⟩))
  have := p.length_eq
  rw [List.length_append, List.length_map, List.length_range] at this
  exact this
/-- a space and what is orthogonal to it make up the width -/
theorem dims {L A : List Nat} {w : Nat} (R : Red L) (hw : ∀ r ∈ L, r < 2 ^ w) (RA : Red A) (hA : ∀ m, InS A m ↔ m < 2 ^ w ∧ Orth L m) : A.length + L.length = w := by
  have dec : ∀ j, Decidable (isFree L j) := fun j => Classical.propDecidable _
  let js := (List.range w).filter fun j => @decide (isFree L j) (dec j)
  have nd : js.Nodup := List.nodup_range.sublist List.filter_sublist
  have hjs : ∀ j, j ∈ js ↔ j < w ∧ isFree L j := fun j => by
    show j ∈ List.filter _ _ ↔ _
    rw [List.mem_filter, List.mem_range, decide_eq_true_iff]
  have e : A.length = (js.map (mk L)).length := indep_len (red_indep RA) (mks_indep R hw nd hjs) fun x => (hA x).trans (masks_span R hw hjs x).symm
  rw [e, List.length_map]
  exact free_count R hw nd hjs
/-- the number of all elements tells the dimension -/
theorem all_len {E vv : List Nat} (a : All E vv) : E.length = 2 ^ (red0 vv).length := by
  obtain ⟨s, e, l⟩ := indep_els (red_indep (red0_red vv))
  have e2 : Els E vv := ⟨a.srt.imp fun {x y} h => Nat.ne_of_lt h, a.iff⟩
  rw [← l]
  exact (e2.perm e fun x => (red0_span vv x).symm).length_eq
end GF
set_option Elab.async false
set_option maxRecDepth 100000
/-! banks as numbers: linear; as many as the rank tells -/
namespace GF
def bk : List Nat → Nat → Nat
  | [], _ => 0
  | v :: vv, a => dot a v + 2 * bk vv a
theorem dot_lt (a v : Nat) : dot a v < 2 := par_lt _
theorem bk_lt : ∀ (vv : List Nat) (a : Nat), bk vv a < 2 ^ vv.length
  | [], _ => Nat.one_pos
  | v :: vv, a => by
    have h1 := bk_lt vv a
    have h2 := dot_lt a v
    rw [List.length_cons, Nat.pow_succ]
    show dot a v + 2 * bk vv a < _
    omega
theorem bk_0 : ∀ (vv : List Nat) (a : Nat), bk vv a = 0 ↔ Orth vv a
  | [], _ => ⟨fun _ v h => (by cases h), fun _ => rfl⟩
  | v :: vv, a => by
    have ih := bk_0 vv a
    constructor
    · intro h u hu
      have h1 : dot a v + 2 * bk vv a = 0 := h
      rcases List.mem_cons.mp hu with rfl | hu
      · rw [dot_comm]
        omega
      · exact ih.mp (by omega) u hu
    · intro h
      have h1 := h v (List.mem_cons_self ..)
      have h2 := ih.mpr fun u hu => h u (List.mem_cons_of_mem _ hu)
      rw [dot_comm] at h1
      show dot a v + 2 * bk vv a = 0
      omega
theorem xor_digit {a b p q : Nat} (ha : a < 2) (hb : b < 2) : (a + 2 * p) ^^^ (b + 2 * q) = (a + b) % 2 + 2 * (p ^^^ q) := by
  have h1 := @Nat.xor_div_two (a + 2 * p) (b + 2 * q)
  have h2 := @Nat.xor_mod_two_eq_one (a + 2 * p) (b + 2 * q)
  rw [show (a + 2 * p) / 2 = p by omega, show (b + 2 * q) / 2 = q by omega] at h1
  omega
theorem bk_xor : ∀ (vv : List Nat) (a b : Nat), bk vv (a ^^^ b) = bk vv a ^^^ bk vv b
  | [], _, _ => (Nat.xor_self 0).symm
  | v :: vv, a, b => by
    show dot (a ^^^ b) v + 2 * bk vv (a ^^^ b) = (dot a v + 2 * bk vv a) ^^^ (dot b v + 2 * bk vv b)
    rw [xor_digit (dot_lt a v) (dot_lt b v), dot_xor_l, bk_xor vv a b]
theorem bk_zero (vv : List Nat) : bk vv 0 = 0 := (bk_0 vv 0).mpr fun v _ => dot_0 v
theorem img_to {vv : List Nat} : ∀ {xs : List Nat} {y : Nat}, InS (xs.map (bk vv)) y → ∃ x, InS xs x ∧ bk vv x = y
  | [], y, h => ⟨0, rfl, (bk_zero vv).trans (show y = 0 from h).symm⟩
  | x0 :: xs, y, h => by
    rcases h with h | h
    · obtain ⟨x, h1, h2⟩ := img_to h
      exact ⟨x, .inl h1, h2⟩
    · obtain ⟨x, h1, h2⟩ := img_to h
      refine ⟨x ^^^ x0, .inr (by rw [xor_cancel]; exact h1), ?_⟩
      rw [bk_xor, h2, xor_cancel]
theorem img_of {vv : List Nat} : ∀ {xs : List Nat} {x : Nat}, InS xs x → InS (xs.map (bk vv)) (bk vv x)
  | [], x, h => by
    have e : x = 0 := h
    rw [e]
    exact bk_zero vv
  | x0 :: xs, x, h => by
    rcases h with h | h
    · exact .inl (img_of h)
    · have := img_of (vv := vv) h
      rw [bk_xor] at this
      exact .inr this
theorem pow_bit (j i : Nat) : (2 ^ j).testBit i = decide (j = i) := Nat.testBit_two_pow
theorem bits_in : ∀ (js : List Nat) (x : Nat), (∀ i, x.testBit i = true → i ∈ js) → InS (js.map (2 ^ ·)) x
  | [], x, h => by
    show x = 0
    refine Nat.eq_of_testBit_eq fun i => ?_
    rw [Nat.zero_testBit]
    cases e : x.testBit i with
    | false => rfl
    | true => cases h i e
  | j :: js, x, h => by
    by_cases hj : x.testBit j = true
    · refine .inr (bits_in js _ fun i hi => ?_)
      rw [Nat.testBit_xor, pow_bit] at hi
      by_cases e : j = i
      · subst e
        rw [hj, decide_eq_true rfl] at hi
        cases hi
      · rw [decide_eq_false e, Bool.xor_false] at hi
        rcases List.mem_cons.mp (h i hi) with z | z
        · exact absurd z.symm e
        · exact z
    · refine .inl (bits_in js _ fun i hi => ?_)
      rcases List.mem_cons.mp (h i hi) with z | z
      · rw [z] at hi
        exact absurd hi hj
      · exact z
theorem bits_out {js : List Nat} {x i : Nat} (h : InS (js.map (2 ^ ·)) x) (hi : x.testBit i = true) : i ∈ js := Classical.byContradiction fun n => by
  have z : ∀ v ∈ js.map (2 ^ ·), v.testBit i = false := fun v hv => by
    obtain ⟨j, hj, rfl⟩ := List.mem_map.mp hv
    show (2 ^ j).testBit i = false
    rw [pow_bit]
    exact decide_eq_false fun e => n (e ▸ hj)
  rw [ins_bit z h] at hi
  cases hi
theorem bit_lt {x w i : Nat} (h : x < 2 ^ w) (hi : x.testBit i = true) : i < w := Nat.lt_of_not_le fun c => by
  rw [Nat.testBit_lt_two_pow (Nat.lt_of_lt_of_le h (Nat.pow_le_pow_right (by decide) c))] at hi
  cases hi
/-- the banks of the powers of two -/
def cols (vv : List Nat) (w : Nat) : List Nat := ((List.range w).map (2 ^ ·)).map (bk vv)
theorem pows_lt {js : List Nat} {w x : Nat} (hj : ∀ j ∈ js, j < w) (h : InS (js.map (2 ^ ·)) x) : x < 2 ^ w := ins_lt (fun v hv => by
  obtain ⟨j, h1, rfl⟩ := List.mem_map.mp hv
  exact Nat.pow_lt_pow_right (by decide) (hj j h1)) h
theorem cols_iff (vv : List Nat) (w y : Nat) : InS (cols vv w) y ↔ ∃ x, x < 2 ^ w ∧ bk vv x = y := by
  constructor
  · intro h
    obtain ⟨x, h1, h2⟩ := img_to h
    exact ⟨x, pows_lt (fun j hj => List.mem_range.mp hj) h1, h2⟩
  · rintro ⟨x, h1, rfl⟩
    exact img_of (bits_in _ _ fun i hi => List.mem_range.mpr (bit_lt h1 hi))
section
variable {vv A js : List Nat} {w : Nat}
theorem part_indep (RA : Red A) (hA : ∀ m, InS A m ↔ m < 2 ^ w ∧ Orth vv m) (nd : js.Nodup) (hjs : ∀ j, j ∈ js ↔ j < w ∧ isFree A j) : Indep ((js.map (2 ^ ·)).map (bk vv)) := fun i r h q => by
  rw [List.getElem?_map, List.getElem?_map] at h
  cases e : js[i]? with
  | none =>
    rw [e] at h
    cases h
  | some j =>
    rw [e] at h
    cases h
    rw [← List.map_take, ← List.map_take] at q
    obtain ⟨x, h1, h2⟩ := img_to q
    have hj := (hjs j).mp (List.mem_of_getElem? e)
    have sub : ∀ k ∈ js.take i, k ∈ js := fun k hk => List.mem_of_mem_take hk
    have nj : j ∉ js.take i := fun hk => by
      obtain ⟨m, hm⟩ := List.getElem?_of_mem hk
      have hml := (List.getElem?_eq_some_iff.mp hm).1
      rw [List.length_take] at hml
      rw [List.getElem?_take_of_lt (by omega)] at hm
      obtain ⟨a, ha⟩ := List.getElem?_eq_some_iff.mp e
      obtain ⟨b, hb⟩ := List.getElem?_eq_some_iff.mp hm
      exact List.pairwise_iff_getElem.mp nd m i b a (by omega) (hb.trans ha.symm)
    have xj : x.testBit j = false := by
      cases z : x.testBit j with
      | false => rfl
      | true => exact absurd (bits_out h1 z) nj
    have zj : (x ^^^ 2 ^ j).testBit j = true := by rw [Nat.testBit_xor, xj, pow_bit, decide_eq_true rfl]; rfl
    have z0 : x ^^^ 2 ^ j ≠ 0 := fun z => by
      rw [z, Nat.zero_testBit] at zj
      cases zj
    have zin : InS A (x ^^^ 2 ^ j) := (hA _).mpr ⟨Nat.xor_lt_two_pow (pows_lt (fun k hk => ((hjs k).mp (sub k hk)).1) h1) (Nat.pow_lt_pow_right (by decide) hj.1), (bk_0 vv _).mp (by rw [bk_xor, h2, Nat.xor_self])⟩
    obtain ⟨u, hu, eu⟩ := lead RA zin z0
    have hb := tb_log z0
    have hin : (x ^^^ 2 ^ j).log2 ∈ js := by
      by_cases c : j = (x ^^^ 2 ^ j).log2
      · rw [← c]
        exact List.mem_of_getElem? e
      · have hb' := hb
        rw [Nat.testBit_xor, pow_bit, decide_eq_false c, Bool.xor_false] at hb'
        exact sub _ (bits_out h1 hb')
    exact ((hjs _).mp hin).2 u hu eu
theorem part_span (RA : Red A) (hAw : ∀ r ∈ A, r < 2 ^ w) (hA : ∀ m, InS A m ↔ m < 2 ^ w ∧ Orth vv m) (hjs : ∀ j, j ∈ js ↔ j < w ∧ isFree A j) (y : Nat) : InS ((js.map (2 ^ ·)).map (bk vv)) y ↔ InS (cols vv w) y := by
  rw [cols_iff]
  constructor
  · intro h
    obtain ⟨x, h1, h2⟩ := img_to h
    exact ⟨x, pows_lt (fun j hj => ((hjs j).mp hj).1) h1, h2⟩
  · rintro ⟨x, hx, rfl⟩
    have h1 := ((hA _).mp (rem_in A x)).2
    have h2 := (bk_0 vv _).mpr h1
    rw [bk_xor] at h2
    have e : bk vv (rem A x) = bk vv x := Classical.byContradiction fun n => ne_bit n h2
    rw [← e]
    refine img_of (bits_in _ _ fun i hi => (hjs i).mpr ⟨bit_lt (rem_lt hAw hx) hi, fun r hr z => ?_⟩)
    have := rem_clear (v := x) RA r hr
    rw [z, hi] at this
    cases this
end
/-- the banks of the powers of two have the rank of the masks -/
theorem cols_rank {vv : List Nat} {w : Nat} (hv : ∀ v ∈ vv, v < 2 ^ w) : (red0 (cols vv w)).length = (red0 vv).length := by
  have free : ∀ L : List Nat, ∃ js : List Nat, js.Nodup ∧ ∀ j, j ∈ js ↔ j < w ∧ isFree L j := fun L => by
    have dec : ∀ j, Decidable (isFree L j) := fun j => Classical.propDecidable _
    refine ⟨(List.range w).filter fun j => @decide (isFree L j) (dec j), List.nodup_range.sublist List.filter_sublist, fun j => ?_⟩
    rw [List.mem_filter, List.mem_range, decide_eq_true_iff]
  have RL := red0_red vv
  have hL : ∀ r ∈ red0 vv, r < 2 ^ w := fun r hr => ins_lt hv ((red0_span vv r).mp (ins_mem hr))
  obtain ⟨ks, _, hks⟩ := free (red0 vv)
  have RA := red0_red (ks.map (mk (red0 vv)))
  have hA : ∀ m, InS (red0 (ks.map (mk (red0 vv)))) m ↔ m < 2 ^ w ∧ Orth vv m := fun m => by rw [red0_span, masks_span RL hL hks, orth_span (red0_span vv)]
  generalize red0 (ks.map (mk (red0 vv))) = A at RA hA
  have hAw : ∀ r ∈ A, r < 2 ^ w := fun r hr => ((hA r).mp (ins_mem hr)).1
  obtain ⟨js, nd, hjs⟩ := free A
  have l1 := free_count RA hAw nd hjs
  have l2 := dims RL hL RA fun m => by rw [hA, orth_span (red0_span vv)]
  have l3 := indep_len (red_indep (red0_red (cols vv w))) (part_indep RA hA nd hjs) fun x => (red0_span _ x).trans (part_span RA hAw hA hjs x).symm
  rw [l3, List.length_map, List.length_map]
  omega
end GF
set_option Elab.async false
set_option maxRecDepth 100000
set_option maxHeartbeats 4000000
/-! independent lists made longer, completed by powers of two -/
namespace GF
theorem indep_nil : Indep [] := fun i r h => by simp at h
theorem red0_len_le : ∀ (vs : List Nat), (red0 vs).length ≤ vs.length := fun vs => by
  have step_le : ∀ (rows : List Nat) (v : Nat), (step rows v).length ≤ rows.length + 1 := fun rows v => by
    unfold step
    split
    · rw [List.length_append, List.length_map]
      exact Nat.le_refl _
    · omega
  have gen : ∀ (vs rows : List Nat), (vs.foldl step rows).length ≤ rows.length + vs.length := by
    intro vs
    induction vs with
    | nil => intro rows; exact Nat.le_refl _
    | cons v vs ih =>
      intro rows
      have h1 := ih (step rows v)
      have h2 := step_le rows v
      rw [List.foldl_cons, List.length_cons]
      omega
  have := gen vs []
  rw [List.length_nil, Nat.zero_add] at this
  exact this
theorem indep_red {vs : List Nat} (h : Indep vs) : (red0 vs).length = vs.length :=
  indep_len (red_indep (red0_red vs)) h fun x => red0_span vs x
theorem indep_iff (vs : List Nat) : (red0 vs).length = vs.length ↔ Indep vs := by
  refine ⟨fun e i r hi hin => ?_, indep_red⟩
  have hl := (List.getElem?_eq_some_iff.mp hi).1
  have hmem : ∀ v ∈ vs, InS (vs.take i ++ vs.drop (i + 1)) v := fun v hv => by
    have e2 : vs = vs.take i ++ (r :: vs.drop (i + 1)) := by
      have e3 : vs.drop i = r :: vs.drop (i + 1) := by
        rw [List.drop_eq_getElem_cons hl]
        congr 1
        exact (List.getElem?_eq_some_iff.mp hi).2
      rw [← e3, List.take_append_drop]
    rw [e2] at hv
    rcases List.mem_append.mp hv with hv | hv
    · exact ins_mem (List.mem_append_left _ hv)
    · rcases List.mem_cons.mp hv with hv | hv
      · rw [hv]
        exact ins_le (fun y hy => ins_mem (List.mem_append_left _ hy)) hin
      · exact ins_mem (List.mem_append_right _ hv)
  have sub : ∀ x, InS (vs.take i ++ vs.drop (i + 1)) x ↔ InS vs x := fun x =>
    ⟨fun h => ins_le (fun y hy => ins_mem (by
      rcases List.mem_append.mp hy with hy | hy
      · exact List.mem_of_mem_take hy
      · exact List.mem_of_mem_drop hy)) h, fun h => ins_le hmem h⟩
  have el : (red0 vs).length = (red0 (vs.take i ++ vs.drop (i + 1))).length := indep_len (red_indep (red0_red _)) (red_indep (red0_red _)) fun x => (red0_span _ x).trans ((sub x).symm.trans (red0_span _ x).symm)
  have := red0_len_le (vs.take i ++ vs.drop (i + 1))
  rw [List.length_append, List.length_take, List.length_drop] at this
  omega
theorem indep_snoc {vs : List Nat} {p : Nat} (h : Indep vs) : Indep (vs ++ [p]) ↔ ¬ InS vs p := by
  constructor
  · intro h2 hin
    refine h2 vs.length p ?_ ?_
    · rw [List.getElem?_append_right (Nat.le_refl _), Nat.sub_self]
      rfl
    · rw [List.take_left']
      · exact hin
      · rfl
  · intro hn i r hi hin
    by_cases c : i < vs.length
    · rw [List.getElem?_append_left c] at hi
      rw [List.take_append_of_le_length (Nat.le_of_lt c)] at hin
      exact h i r hi hin
    · have hl := (List.getElem?_eq_some_iff.mp hi).1
      rw [List.length_append, List.length_singleton] at hl
      have e : i = vs.length := by omega
      subst e
      rw [List.getElem?_append_right (Nat.le_refl _), Nat.sub_self] at hi
      cases hi
      rw [List.take_left' rfl] at hin
      exact hn hin
theorem indep_prefix {vs : List Nat} (h : Indep vs) (k : Nat) : Indep (vs.take k) := fun i r hi hin => by
  have hl := (List.getElem?_eq_some_iff.mp hi).1
  rw [List.length_take] at hl
  rw [List.getElem?_take] at hi
  split at hi
  · rw [List.take_take] at hin
    rw [show min i k = i by omega] at hin
    exact h i r hi hin
  · cases hi
/-- the powers of two that are not in the span of what is ahead, behind it -/
def compS (r : List Nat) (i : Nat) : List Nat := if (red0 (r ++ [2 ^ i])).length = (r ++ [2 ^ i]).length then r ++ [2 ^ i] else r
def comp (vv : List Nat) (n : Nat) : List Nat := (List.range n).foldl compS vv
theorem comp_0 (vv : List Nat) : comp vv 0 = vv := rfl
theorem comp_next (vv : List Nat) (n : Nat) : comp vv (n + 1) = compS (comp vv n) n := by
  unfold comp
  rw [List.range_succ, List.foldl_append]
  rfl
/-- what stands behind -/
structure Comp (vv : List Nat) (n : Nat) (r : List Nat) : Prop where
  ind : Indep r
  app : ∃ ps : List Nat, r = vv ++ ps ∧ ps.Pairwise (· < ·) ∧ ∀ x ∈ ps, ∃ j, j < n ∧ x = 2 ^ j
  has : ∀ j, j < n → InS r (2 ^ j)
theorem comp_is {vv : List Nat} (h : Indep vv) : ∀ n, Comp vv n (comp vv n)
  | 0 => ⟨h, ⟨[], (List.append_nil _).symm, List.Pairwise.nil, fun x hx => (by cases hx)⟩, fun j hj => absurd hj (Nat.not_lt_zero j)⟩
  | n + 1 => by
    obtain ⟨hi, ⟨ps, e, srt, hm⟩, hh⟩ := comp_is h n
    rw [comp_next]
    unfold compS
    by_cases c : (red0 (comp vv n ++ [2 ^ n])).length = (comp vv n ++ [2 ^ n]).length
    · rw [if_pos c]
      refine ⟨(indep_iff _).mp c, ⟨ps ++ [2 ^ n], by rw [← List.append_assoc, ← e], ?_, fun x hx => ?_⟩, fun j hj => ?_⟩
      · refine List.pairwise_append.mpr ⟨srt, List.pairwise_singleton _ _, fun a ha b hb => ?_⟩
        obtain ⟨j, hj, rfl⟩ := hm a ha
        rw [List.mem_singleton.mp hb]
        exact Nat.pow_lt_pow_right (by decide) hj
      · rcases List.mem_append.mp hx with hx | hx
        · obtain ⟨j, hj, e⟩ := hm x hx
          exact ⟨j, by omega, e⟩
        · exact ⟨n, by omega, List.mem_singleton.mp hx⟩
      · by_cases hn : j = n
        · rw [hn]
          exact ins_mem (List.mem_append_right _ (List.mem_singleton.mpr rfl))
        · exact ins_le (fun y hy => ins_mem (List.mem_append_left _ hy)) (hh j (by omega))
    · rw [if_neg c]
      refine ⟨hi, ⟨ps, e, srt, fun x hx => ?_⟩, fun j hj => ?_⟩
      · obtain ⟨j, hj, e⟩ := hm x hx
        exact ⟨j, by omega, e⟩
      · by_cases hn : j = n
        · rw [hn]
          exact Classical.byContradiction fun z => c ((indep_iff _).mpr ((indep_snoc hi).mpr z))
        · exact hh j (by omega)
theorem comp_yes {vv : List Nat} (h : Indep vv) (n : Nat) (c : InS (comp vv n) (2 ^ n)) : comp vv (n + 1) = comp vv n := by
  rw [comp_next]
  unfold compS
  exact if_neg fun z => (indep_snoc (comp_is h n).ind).mp ((indep_iff _).mp z) c
theorem comp_no {vv : List Nat} (h : Indep vv) (n : Nat) (c : ¬ InS (comp vv n) (2 ^ n)) : comp vv (n + 1) = comp vv n ++ [2 ^ n] := by
  rw [comp_next]
  unfold compS
  exact if_pos ((indep_iff _).mpr ((indep_snoc (comp_is h n).ind).mpr c))
theorem powers_indep (w : Nat) : Indep ((List.range w).map (2 ^ ·)) := fun i r hi hin => by
  have hl := (List.getElem?_eq_some_iff.mp hi).1
  rw [List.length_map, List.length_range] at hl
  rw [List.getElem?_map, List.getElem?_range hl] at hi
  cases hi
  have e : ((List.range w).map (2 ^ ·)).take i = (List.range i).map (2 ^ ·) := by
    rw [← List.map_take, List.take_range, show min i w = i by omega]
  rw [e] at hin
  have := pows_lt (w := i) (fun j hj => List.mem_range.mp hj) hin
  exact Nat.lt_irrefl _ this
theorem powers_all {w x : Nat} (h : x < 2 ^ w) : InS ((List.range w).map (2 ^ ·)) x := bits_in _ x fun _ hi => List.mem_range.mpr (bit_lt h hi)
theorem comp_span {vv : List Nat} {w : Nat} (h : Indep vv) (hv : ∀ v ∈ vv, v < 2 ^ w) (x : Nat) : InS (comp vv w) x ↔ x < 2 ^ w := by
  obtain ⟨hi, ⟨ps, e, srt, hm⟩, hh⟩ := comp_is h w
  have lt : ∀ v ∈ comp vv w, v < 2 ^ w := fun v hx => by
    rw [e] at hx
    rcases List.mem_append.mp hx with hx | hx
    · exact hv v hx
    · obtain ⟨j, hj, rfl⟩ := hm v hx
      exact Nat.pow_lt_pow_right (by decide) hj
  refine ⟨fun q => ins_lt lt q, fun q => ?_⟩
  refine ins_le (fun y hy => ?_) (powers_all q)
  obtain ⟨j, hj, rfl⟩ := List.mem_map.mp hy
  exact hh j (List.mem_range.mp hj)
theorem comp_len {vv : List Nat} {w : Nat} (h : Indep vv) (hv : ∀ v ∈ vv, v < 2 ^ w) : (comp vv w).length = w := by
  have e := indep_len (comp_is h w).ind (powers_indep w) fun x => (comp_span h hv x).trans ⟨fun q => powers_all q, fun q => pows_lt (fun j hj => List.mem_range.mp hj) q⟩
  rw [e, List.length_map, List.length_range]
theorem comp_lt {vv : List Nat} {w : Nat} (h : Indep vv) (hv : ∀ v ∈ vv, v < 2 ^ w) : ∀ v ∈ comp vv w, v < 2 ^ w := fun v hm => (comp_span h hv v).mp (ins_mem hm)
/-- as many masks as the width that span all: no two addresses share a bank -/
theorem bk_inj {r : List Nat} {w : Nat} (hs : ∀ x, x < 2 ^ w → InS r x) {a b : Nat} (ha : a < 2 ^ w) (hb : b < 2 ^ w) (e : bk r a = bk r b) : a = b := by
  have z : bk r (a ^^^ b) = 0 := by rw [bk_xor, e, Nat.xor_self]
  have o := (bk_0 r _).mp z
  have hx : a ^^^ b = 0 := by
    refine Nat.eq_of_testBit_eq fun i => ?_
    rw [Nat.zero_testBit]
    cases c : (a ^^^ b).testBit i with
    | false => rfl
    | true =>
      have hlt : a ^^^ b < 2 ^ w := Nat.xor_lt_two_pow ha hb
      have hi := bit_lt hlt c
      have h1 : InS r (2 ^ i) := hs _ (Nat.pow_lt_pow_right (by decide) hi)
      have h2 := ins_dot o h1
      rw [dot_comm, dot_pow] at h2
      unfold has at h2
      rw [if_pos c] at h2
      cases h2
  exact Classical.byContradiction fun n => ne_bit n hx
/-- numbers below n, all different, as many as n: in order they are all of them -/
theorem all_have : ∀ (n : Nat) (L : List Nat), L.Nodup → L.length = n → (∀ x ∈ L, x < n) → ∀ y, y < n → y ∈ L
  | 0, _, _, _, _, y, hy => absurd hy (Nat.not_lt_zero y)
  | n + 1, L, nd, hl, hb, y, hy => by
    by_cases c : n ∈ L
    · by_cases e : y = n
      · rw [e]
        exact c
      · have h1 : (L.erase n).Nodup := nd.erase n
        have h2 : (L.erase n).length = n := by rw [List.length_erase_of_mem c, hl]; rfl
        have h3 : ∀ x ∈ L.erase n, x < n := fun x hx => by
          have := (List.Nodup.mem_erase_iff nd).mp hx
          have := hb x this.2
          omega
        exact List.mem_of_mem_erase (all_have n _ h1 h2 h3 y (by omega))
    · exfalso
      cases L with
      | nil => simp at hl
      | cons a L' =>
        obtain ⟨h1, h2⟩ := List.nodup_cons.mp nd
        have hlt : ∀ x ∈ a :: L', x < n := fun x hx => by
          have := hb x hx
          have : x ≠ n := fun z => c (z ▸ hx)
          omega
        exact h1 (all_have n L' h2 (by simpa using hl) (fun x hx => hlt x (List.mem_cons_of_mem _ hx)) a (hlt a (List.mem_cons_self ..)))
theorem all_below {L : List Nat} {n : Nat} (nd : L.Nodup) (hl : L.length = n) (hb : ∀ x ∈ L, x < n) : L.Perm (List.range n) :=
  (List.perm_ext_iff_of_nodup nd List.nodup_range).mpr fun x => ⟨fun h => List.mem_range.mpr (hb x h), fun h => all_have n L nd hl hb x (List.mem_range.mp h)⟩
theorem places_all {r : List Nat} {w : Nat} (hs : ∀ x, x < 2 ^ w → InS r x) (hl : r.length = w) : ((List.range (2 ^ w)).map (bk r)).Perm (List.range (2 ^ w)) := by
  refine all_below ?_ ?_ ?_
  · rw [List.nodup_iff_pairwise_ne, List.pairwise_map]
    exact List.nodup_range.imp_of_mem fun {a b} ha hb n z => n (bk_inj hs (List.mem_range.mp ha) (List.mem_range.mp hb) z)
  · rw [List.length_map, List.length_range]
  · intro x hx
    obtain ⟨a, _, rfl⟩ := List.mem_map.mp hx
    have := bk_lt r a
    rw [hl] at this
    exact this
end GF
set_option Elab.async false
set_option maxRecDepth 100000
set_option maxHeartbeats 4000000
/-! rows of different highest bits -/
namespace GF
theorem log_xor {a b : Nat} (hb : b ≠ 0) (h : a.log2 < b.log2) : a ^^^ b ≠ 0 ∧ (a ^^^ b).log2 = b.log2 := by
  refine log_of ?_ fun j hj => ?_
  · rw [Nat.testBit_xor, tb_above h, tb_log hb]
    rfl
  · rw [Nat.testBit_xor, tb_above (Nat.lt_trans h hj), tb_above hj]
    rfl
theorem logs_lead : ∀ {C : List Nat}, (C.map Nat.log2).Nodup → (∀ c ∈ C, c ≠ 0) → ∀ {x}, InS C x → x ≠ 0 → ∃ c ∈ C, c.log2 = x.log2
  | [], _, _, x, h, n => absurd h n
  | c :: C, nd, nz, x, h, n => by
    obtain ⟨h1, h2⟩ := List.nodup_cons.mp nd
    have ih := @logs_lead C h2 fun y hy => nz y (List.mem_cons_of_mem _ hy)
    have hc := nz c (List.mem_cons_self ..)
    rcases h with h | h
    · obtain ⟨y, hy, e⟩ := ih h n
      exact ⟨y, List.mem_cons_of_mem _ hy, e⟩
    · by_cases z : x ^^^ c = 0
      · have e : x = c := Classical.byContradiction fun q => ne_bit q z
        exact ⟨c, List.mem_cons_self .., by rw [e]⟩
      · obtain ⟨y, hy, e⟩ := ih h z
        have ne : (x ^^^ c).log2 ≠ c.log2 := fun q => h1 (List.mem_map.mpr ⟨y, hy, e.trans q⟩)
        have ex : x = (x ^^^ c) ^^^ c := by rw [Nat.xor_assoc, Nat.xor_self, Nat.xor_zero]
        rcases Nat.lt_or_gt_of_ne ne with q | q
        · have := (log_xor hc q).2
          rw [← ex] at this
          exact ⟨c, List.mem_cons_self .., this.symm⟩
        · have := (log_xor z q).2
          rw [Nat.xor_comm, ← ex] at this
          exact ⟨y, List.mem_cons_of_mem _ hy, e.trans this.symm⟩
theorem logs_indep {C : List Nat} (nd : (C.map Nat.log2).Nodup) (nz : ∀ c ∈ C, c ≠ 0) : Indep C := fun i r hi hin => by
  have hl := (List.getElem?_eq_some_iff.mp hi).1
  have hr := nz r (List.mem_of_getElem? hi)
  have nd2 : ((C.take i).map Nat.log2).Nodup := by
    rw [List.map_take]
    exact nd.sublist (List.take_sublist _ _)
  obtain ⟨y, hy, e⟩ := logs_lead nd2 (fun c hc => nz c (List.mem_of_mem_take hc)) hin hr
  obtain ⟨j, hj⟩ := List.getElem?_of_mem hy
  have hj1 := (List.getElem?_eq_some_iff.mp hj).1
  rw [List.length_take] at hj1
  rw [List.getElem?_take_of_lt (by omega)] at hj
  have d := List.pairwise_iff_getElem.mp nd j i (by rw [List.length_map]; omega) (by rw [List.length_map]; omega) (by omega)
  rw [List.getElem_map, List.getElem_map] at d
  rw [(List.getElem?_eq_some_iff.mp hj).2, (List.getElem?_eq_some_iff.mp hi).2] at d
  exact d e
/-- the top bit taken off -/
theorem log_off {a b : Nat} (ha : a ≠ 0) (h : b.log2 = a.log2) (hb : b ≠ 0) : a ^^^ b < a := by
  refine lt_of_bit (i := a.log2) ?_ (tb_log ha) fun j hj => ?_
  · rw [Nat.testBit_xor, tb_log ha, ← h, tb_log hb]
    rfl
  · rw [Nat.testBit_xor, tb_above hj, tb_above (h ▸ hj)]
    rfl
end GF
set_option Elab.async false
set_option maxRecDepth 100000
/-! masks and what makes them: combinations, the inverse of a map -/
namespace GF
/-- the sum of the masks at the bits of c -/
def comb : List Nat → Nat → Nat
  | [], _ => 0
  | v :: vs, c => (if c % 2 = 1 then v else 0) ^^^ comb vs (c / 2)
theorem comb_0 : ∀ vs, comb vs 0 = 0
  | [] => rfl
  | v :: vs => by
    show (if 0 % 2 = 1 then v else 0) ^^^ comb vs (0 / 2) = 0
    rw [if_neg (by decide), Nat.zero_div, comb_0 vs]
    rfl
theorem comb_xor : ∀ (vs : List Nat) (a b : Nat), comb vs (a ^^^ b) = comb vs a ^^^ comb vs b
  | [], _, _ => (Nat.xor_self 0).symm
  | v :: vs, a, b => by
    show (if (a ^^^ b) % 2 = 1 then v else 0) ^^^ comb vs ((a ^^^ b) / 2) = ((if a % 2 = 1 then v else 0) ^^^ comb vs (a / 2)) ^^^ ((if b % 2 = 1 then v else 0) ^^^ comb vs (b / 2))
    rw [Nat.xor_div_two, comb_xor vs]
    have h2 := @Nat.xor_mod_two_eq_one a b
    generalize comb vs (a / 2) = p
    generalize comb vs (b / 2) = q
    have e : (if (a ^^^ b) % 2 = 1 then v else 0) = (if a % 2 = 1 then v else 0) ^^^ (if b % 2 = 1 then v else 0) := by
      by_cases ha : a % 2 = 1 <;> by_cases hb : b % 2 = 1
      · rw [if_neg (by omega), if_pos ha, if_pos hb, Nat.xor_self]
      · rw [if_pos (by omega), if_pos ha, if_neg hb, Nat.xor_zero]
      · rw [if_pos (by omega), if_neg ha, if_pos hb, Nat.zero_xor]
      · rw [if_neg (by omega), if_neg ha, if_neg hb, Nat.xor_zero]
    rw [e]
    generalize (if a % 2 = 1 then v else 0) = x
    generalize (if b % 2 = 1 then v else 0) = y
    rw [Nat.xor_assoc, Nat.xor_assoc]
    congr 1
    rw [← Nat.xor_assoc, ← Nat.xor_assoc, Nat.xor_comm y p]
theorem comb_in : ∀ (vs : List Nat) (c : Nat), InS vs (comb vs c)
  | [], _ => rfl
  | v :: vs, c => by
    show InS vs _ ∨ InS vs _
    by_cases h : c % 2 = 1
    · refine .inr ?_
      show InS vs (((if c % 2 = 1 then v else 0) ^^^ comb vs (c / 2)) ^^^ v)
      rw [if_pos h, Nat.xor_comm v, xor_cancel]
      exact comb_in vs _
    · refine .inl ?_
      show InS vs ((if c % 2 = 1 then v else 0) ^^^ comb vs (c / 2))
      rw [if_neg h, Nat.zero_xor]
      exact comb_in vs _
/-- masks above, what made them below -/
def liftA (n : Nat) : Nat → List Nat → List Nat
  | _, [] => []
  | k, v :: vs => (v * 2 ^ n ^^^ 2 ^ k) :: liftA n (k + 1) vs
def lift (vs : List Nat) (n : Nat) : List Nat := liftA n 0 vs
theorem liftA_len (n : Nat) : ∀ (k : Nat) (vs : List Nat), (liftA n k vs).length = vs.length
  | _, [] => rfl
  | k, v :: vs => by
    show (liftA n (k + 1) vs).length + 1 = _
    rw [liftA_len n (k + 1) vs]
    rfl
theorem liftA_at (n : Nat) : ∀ (k : Nat) (vs : List Nat) (i : Nat), (liftA n k vs)[i]? = vs[i]?.map fun v => v * 2 ^ n ^^^ 2 ^ (k + i)
  | _, [], _ => by simp [liftA]
  | k, v :: vs, 0 => rfl
  | k, v :: vs, i + 1 => by
    show (liftA n (k + 1) vs)[i]? = vs[i]?.map _
    rw [liftA_at n (k + 1) vs i]
    congr 1
    funext v
    rw [show k + 1 + i = k + (i + 1) by omega]
theorem shl_xor (a b n : Nat) : (a ^^^ b) * 2 ^ n = a * 2 ^ n ^^^ b * 2 ^ n := by
  rw [← Nat.shiftLeft_eq, ← Nat.shiftLeft_eq, ← Nat.shiftLeft_eq, Nat.shiftLeft_xor_distrib]
/-- in the span of the lifted ones: a combination above, its choice below -/
theorem lift_to (n : Nat) : ∀ (k : Nat) (vs : List Nat) {x : Nat}, InS (liftA n k vs) x → ∃ c, c < 2 ^ vs.length ∧ x = comb vs c * 2 ^ n ^^^ c * 2 ^ k
  | k, [], x, h => ⟨0, Nat.one_pos, by
    have e : x = 0 := h
    rw [e, comb_0]
    simp⟩
  | k, v :: vs, x, h => by
    rcases h with h | h
    · obtain ⟨c, hc, e⟩ := lift_to n (k + 1) vs h
      refine ⟨2 * c, by rw [List.length_cons, Nat.pow_succ]; omega, ?_⟩
      have e1 : comb (v :: vs) (2 * c) = comb vs c := by
        show (if 2 * c % 2 = 1 then v else 0) ^^^ comb vs (2 * c / 2) = _
        rw [if_neg (by omega), Nat.zero_xor, Nat.mul_div_cancel_left _ (by decide)]
      rw [e, e1]
      congr 1
      rw [Nat.pow_succ]
      ac_rfl
    · obtain ⟨c, hc, e⟩ := lift_to n (k + 1) vs h
      refine ⟨2 * c + 1, by rw [List.length_cons, Nat.pow_succ]; omega, ?_⟩
      have e1 : comb (v :: vs) (2 * c + 1) = v ^^^ comb vs c := by
        show (if (2 * c + 1) % 2 = 1 then v else 0) ^^^ comb vs ((2 * c + 1) / 2) = _
        rw [if_pos (by omega), show (2 * c + 1) / 2 = c by omega]
      have e2 : (2 * c + 1) * 2 ^ k = c * 2 ^ (k + 1) ^^^ 2 ^ k := by
        have ec : 2 * c + 1 = 2 * c ^^^ 1 := by
          have := @xor_digit 0 1 c 0 (by decide) (by decide)
          simp only [Nat.zero_add, Nat.mul_zero, Nat.add_zero, Nat.xor_zero] at this
          rw [this]
          omega
        rw [ec, shl_xor, Nat.one_mul, Nat.pow_succ]
        congr 1
        ac_rfl
      have ex : x = comb vs c * 2 ^ n ^^^ c * 2 ^ (k + 1) ^^^ (v * 2 ^ n ^^^ 2 ^ k) := by rw [← e, xor_cancel]
      rw [ex, e1, e2, shl_xor]
      generalize comb vs c * 2 ^ n = a
      generalize c * 2 ^ (k + 1) = b
      generalize v * 2 ^ n = d
      generalize 2 ^ k = f
      rw [Nat.xor_comm d a, Nat.xor_assoc, Nat.xor_assoc]
      congr 1
      rw [← Nat.xor_assoc, ← Nat.xor_assoc, Nat.xor_comm b d]
theorem lift_of (n : Nat) : ∀ (k : Nat) (vs : List Nat) (c : Nat), c < 2 ^ vs.length → InS (liftA n k vs) (comb vs c * 2 ^ n ^^^ c * 2 ^ k)
  | k, [], c, h => by
    have e : c = 0 := by
      have : c < 1 := h
      omega
    rw [e, comb_0]
    show 0 * 2 ^ n ^^^ 0 * 2 ^ k = 0
    simp
  | k, v :: vs, c, h => by
    have hc : c / 2 < 2 ^ vs.length := by
      rw [List.length_cons, Nat.pow_succ] at h
      omega
    have ih := lift_of n (k + 1) vs (c / 2) hc
    show InS (liftA n (k + 1) vs) _ ∨ InS (liftA n (k + 1) vs) _
    have ep : c / 2 * 2 ^ (k + 1) = (2 * (c / 2)) * 2 ^ k := by
      rw [Nat.pow_succ]
      ac_rfl
    by_cases hm : c % 2 = 1
    · refine .inr ?_
      have e1 : comb (v :: vs) c = v ^^^ comb vs (c / 2) := by
        show (if c % 2 = 1 then v else 0) ^^^ comb vs (c / 2) = _
        rw [if_pos hm]
      have ec : c = 2 * (c / 2) ^^^ 1 := by
        have := @xor_digit 0 1 (c / 2) 0 (by decide) (by decide)
        simp only [Nat.zero_add, Nat.mul_zero, Nat.add_zero, Nat.xor_zero] at this
        rw [this]
        omega
      have e2 : c * 2 ^ k = c / 2 * 2 ^ (k + 1) ^^^ 2 ^ k := by
        rw [ep]
        conv => lhs; rw [ec]
        rw [shl_xor, Nat.one_mul]
      have e3 : comb (v :: vs) c * 2 ^ n ^^^ c * 2 ^ k ^^^ (v * 2 ^ n ^^^ 2 ^ k) = comb vs (c / 2) * 2 ^ n ^^^ c / 2 * 2 ^ (k + 1) := by
        rw [e1, e2, shl_xor]
        generalize comb vs (c / 2) * 2 ^ n = a
        generalize c / 2 * 2 ^ (k + 1) = b
        generalize v * 2 ^ n = d
        generalize 2 ^ k = f
        refine Nat.eq_of_testBit_eq fun i => ?_
        simp only [Nat.testBit_xor]
        cases a.testBit i <;> cases b.testBit i <;> cases d.testBit i <;> cases f.testBit i <;> rfl
      rw [e3]
      exact ih
    · refine .inl ?_
      have e1 : comb (v :: vs) c = comb vs (c / 2) := by
        show (if c % 2 = 1 then v else 0) ^^^ comb vs (c / 2) = _
        rw [if_neg hm, Nat.zero_xor]
      rw [e1, show c * 2 ^ k = c / 2 * 2 ^ (k + 1) by rw [ep]; congr 1; omega]
      exact ih
theorem ins_comb {vs : List Nat} {y : Nat} (h : InS vs y) : ∃ c, c < 2 ^ vs.length ∧ comb vs c = y := by
  have key : ∀ (vs : List Nat) {y : Nat}, InS vs y → ∃ c, c < 2 ^ vs.length ∧ comb vs c = y := by
    intro vs
    induction vs with
    | nil => exact fun h => ⟨0, Nat.one_pos, (show _ = 0 from h).symm⟩
    | cons v vs ih =>
      intro y h
      rcases h with h | h
      · obtain ⟨c, hc, e⟩ := ih h
        refine ⟨2 * c, by rw [List.length_cons, Nat.pow_succ]; omega, ?_⟩
        show (if 2 * c % 2 = 1 then v else 0) ^^^ comb vs (2 * c / 2) = _
        rw [if_neg (by omega), Nat.zero_xor, Nat.mul_div_cancel_left _ (by decide), e]
      · obtain ⟨c, hc, e⟩ := ih h
        refine ⟨2 * c + 1, by rw [List.length_cons, Nat.pow_succ]; omega, ?_⟩
        show (if (2 * c + 1) % 2 = 1 then v else 0) ^^^ comb vs ((2 * c + 1) / 2) = _
        rw [if_pos (by omega), show (2 * c + 1) / 2 = c by omega, e, Nat.xor_comm y, xor_cancel']
  exact key vs h
/-- what is left of a number above tells whether the masks make it, and how -/
theorem rem_lift {vs L : List Nat} {n y : Nat} (hn : vs.length ≤ n) (R : Red L) (hL : ∀ x, InS L x ↔ InS (lift vs n) x) :
    (rem L (y * 2 ^ n) < 2 ^ n ↔ InS vs y) ∧ (rem L (y * 2 ^ n) < 2 ^ n → comb vs (rem L (y * 2 ^ n)) = y ∧ rem L (y * 2 ^ n) < 2 ^ vs.length) := by
  generalize hr : rem L (y * 2 ^ n) = r
  have h1 : InS (lift vs n) (r ^^^ y * 2 ^ n) := (hL _).mp (hr ▸ rem_in L (y * 2 ^ n))
  obtain ⟨c, hc, e⟩ := lift_to n 0 vs h1
  rw [Nat.pow_zero, Nat.mul_one] at e
  have hcn : c < 2 ^ n := Nat.lt_of_lt_of_le hc (Nat.pow_le_pow_right (by decide) hn)
  have er : r = (comb vs c ^^^ y) * 2 ^ n ^^^ c := by
    rw [shl_xor]
    generalize comb vs c * 2 ^ n = a at e ⊢
    generalize y * 2 ^ n = b at e ⊢
    have : r = r ^^^ b ^^^ b := (xor_cancel r b).symm
    rw [this, e]
    rw [Nat.xor_assoc, Nat.xor_comm c b, ← Nat.xor_assoc]
  have hdiv : r / 2 ^ n = comb vs c ^^^ y := by
    rw [er, Nat.xor_div_two_pow, Nat.mul_div_cancel _ (Nat.two_pow_pos n), Nat.div_eq_of_lt hcn, Nat.xor_zero]
  have small : r < 2 ^ n → comb vs r = y ∧ r < 2 ^ vs.length := fun h => by
    rw [Nat.div_eq_of_lt h] at hdiv
    have ey : comb vs c = y := Classical.byContradiction fun z => ne_bit z hdiv.symm
    rw [← hdiv, Nat.zero_mul, Nat.zero_xor] at er
    rw [er]
    exact ⟨ey, hc⟩
  refine ⟨⟨fun h => (small h).1 ▸ comb_in vs r, fun h => ?_⟩, small⟩
  obtain ⟨c0, hc0, e0⟩ := ins_comb h
  have hc0n : c0 < 2 ^ n := Nat.lt_of_lt_of_le hc0 (Nat.pow_le_pow_right (by decide) hn)
  have h2 := lift_of n 0 vs c0 hc0
  rw [Nat.pow_zero, Nat.mul_one, e0] at h2
  have h3 : InS L (r ^^^ c0) := (hL _).mpr (by
    have := ins_xor h1 h2
    rw [show r ^^^ y * 2 ^ n ^^^ (y * 2 ^ n ^^^ c0) = r ^^^ c0 by
      rw [Nat.xor_assoc, xor_cancel']] at this
    exact this)
  refine Nat.lt_of_not_le fun hge => ?_
  have hlog : n ≤ r.log2 := (Nat.le_log2 (by have := Nat.two_pow_pos n; omega)).mpr hge
  have r0 : r ≠ 0 := by have := Nat.two_pow_pos n; omega
  have lt : c0.log2 < r.log2 ∨ c0 = 0 := by
    by_cases z : c0 = 0
    · exact .inr z
    · exact .inl (Nat.lt_of_lt_of_le ((Nat.log2_lt z).mpr hc0n) hlog)
  have hx : r ^^^ c0 ≠ 0 ∧ (r ^^^ c0).log2 = r.log2 := by
    rcases lt with lt | z
    · rw [Nat.xor_comm]
      exact log_xor r0 lt
    · rw [z, Nat.xor_zero]
      exact ⟨r0, rfl⟩
  obtain ⟨u, hu, eu⟩ := lead R h3 hx.1
  have := rem_clear (v := y * 2 ^ n) R u hu
  rw [hr, eu, hx.2, tb_log r0] at this
  cases this
/-! ### the inverse -/
structure InvM (vv R : List Nat) (w : Nat) : Prop where
  len : R.length = w
  at_ : ∀ j r, R[j]? = some r → r < 2 ^ w ∧ comb vv r = 2 ^ j
/-- the parity of a choice with a bank is that of the combination with the address -/
theorem dot_comb : ∀ (vv : List Nat) (c a : Nat), dot c (bk vv a) = dot (comb vv c) a
  | [], c, a => by
    show dot c 0 = dot 0 a
    rw [dot_0, dot_comm, dot_0]
  | v :: vv, c, a => by
    show dot c (dot a v + 2 * bk vv a) = dot ((if c % 2 = 1 then v else 0) ^^^ comb vv (c / 2)) a
    rw [dot_xor_l, ← dot_comb vv (c / 2) a]
    have h := dot_lt a v
    have e1 : dot c (dot a v + 2 * bk vv a) = ((c % 2) * dot a v + dot (c / 2) (bk vv a)) % 2 := by
      show par (c &&& (dot a v + 2 * bk vv a)) = _
      rw [par_eq]
      have e2 : (c &&& (dot a v + 2 * bk vv a)) / 2 = c / 2 &&& bk vv a := by
        rw [Nat.and_div_two]
        congr 1
        omega
      have e3 : (c &&& (dot a v + 2 * bk vv a)) % 2 = (c % 2) * dot a v := by
        have := @Nat.and_mod_two_pow c (dot a v + 2 * bk vv a) 1
        rw [Nat.pow_one] at this
        rw [this, show (dot a v + 2 * bk vv a) % 2 = dot a v by omega]
        rcases Nat.mod_two_eq_zero_or_one c with z | z <;> rw [z]
        · simp
        · have : dot a v = 0 ∨ dot a v = 1 := by omega
          rcases this with q | q <;> rw [q] <;> rfl
      rw [e2, e3]
      rfl
    rw [e1]
    rcases Nat.mod_two_eq_zero_or_one c with z | z
    · rw [z, if_neg (by decide)]
      congr 2
      rw [dot_comm 0 a, dot_0, Nat.zero_mul]
    · rw [z, if_pos rfl, Nat.one_mul, dot_comm a v]
theorem bk_bit : ∀ (R : List Nat) (b j : Nat), (bk R b).testBit j = decide (dot b (R.getD j 0) = 1)
  | [], b, j => by
    show (0 : Nat).testBit j = _
    rw [Nat.zero_testBit, List.getD_nil, dot_0]
    rfl
  | r :: R, b, 0 => by
    show (dot b r + 2 * bk R b).testBit 0 = decide (dot b r = 1)
    rw [Nat.testBit_zero, show (dot b r + 2 * bk R b) % 2 = dot b r by have := dot_lt b r; omega]
  | r :: R, b, j + 1 => by
    show (dot b r + 2 * bk R b).testBit (j + 1) = _
    rw [Nat.testBit_succ, show (dot b r + 2 * bk R b) / 2 = bk R b by have := dot_lt b r; omega, bk_bit R b j]
    rfl
theorem has_bit (a j : Nat) : decide (has a j = 1) = a.testBit j := by
  unfold has
  cases a.testBit j <;> rfl
theorem inv_bk {vv R : List Nat} {w a : Nat} (I : InvM vv R w) (ha : a < 2 ^ w) : bk R (bk vv a) = a := by
  refine Nat.eq_of_testBit_eq fun j => ?_
  rw [bk_bit]
  by_cases hj : j < w
  · have hj' : j < R.length := by rw [I.len]; exact hj
    obtain ⟨h1, h2⟩ := I.at_ j R[j] (List.getElem?_eq_getElem hj')
    rw [List.getD_eq_getElem?_getD, List.getElem?_eq_getElem hj', Option.getD_some, dot_comm, dot_comb, h2, dot_comm, dot_pow, has_bit]
  · have e : R[j]? = none := List.getElem?_eq_none (by rw [I.len]; omega)
    rw [List.getD_eq_getElem?_getD, e, Option.getD_none, dot_0]
    cases c : a.testBit j with
    | false => rfl
    | true => exact absurd (bit_lt ha c) hj
theorem full_span {vv : List Nat} {w : Nat} (h : Indep vv) (hl : vv.length = w) (hv : ∀ v ∈ vv, v < 2 ^ w) (x : Nat) : InS vv x ↔ x < 2 ^ w := by
  have e : comp vv w = vv := by
    obtain ⟨ps, e, _, _⟩ := (comp_is h w).app
    have l := comp_len h hv
    rw [e, List.length_append, hl] at l
    rw [e, List.eq_nil_of_length_eq_zero (show ps.length = 0 by omega), List.append_nil]
  rw [← comp_span h hv, e]
theorem bk_onto {vv : List Nat} {w b : Nat} (h : Indep vv) (hl : vv.length = w) (hv : ∀ v ∈ vv, v < 2 ^ w) (hb : b < 2 ^ w) : ∃ a, a < 2 ^ w ∧ bk vv a = b := by
  have p := places_all (fun x hx => (full_span h hl hv x).mpr hx) hl
  obtain ⟨a, ha, e⟩ := List.mem_map.mp (p.symm.subset (List.mem_range.mpr hb))
  exact ⟨a, List.mem_range.mp ha, e⟩
/-- masks below are told by the banks -/
theorem bk_ext {A B : List Nat} {w : Nat} (hl : A.length = B.length) (hA : ∀ a ∈ A, a < 2 ^ w) (hB : ∀ a ∈ B, a < 2 ^ w) (h : ∀ x, x < 2 ^ w → bk A x = bk B x) : A = B := by
  refine List.ext_getElem hl fun j h1 h2 => ?_
  refine Nat.eq_of_testBit_eq fun i => ?_
  by_cases hi : i < w
  · have := h (2 ^ i) (Nat.pow_lt_pow_right (by decide) hi)
    have := congrArg (fun z => z.testBit j) this
    simp only [bk_bit] at this
    rw [List.getD_eq_getElem?_getD, List.getElem?_eq_getElem h1, List.getD_eq_getElem?_getD, List.getElem?_eq_getElem h2, Option.getD_some, Option.getD_some, dot_comm _ A[j], dot_comm _ B[j], dot_pow, dot_pow, has_bit, has_bit] at this
    exact this
  · have e : ∀ z, z < 2 ^ w → z.testBit i = false := fun z hz => by
      cases c : z.testBit i with
      | false => rfl
      | true => exact absurd (bit_lt hz c) hi
    rw [e _ (hA _ (List.getElem_mem h1)), e _ (hB _ (List.getElem_mem h2))]
theorem InvM.lt {vv R : List Nat} {w : Nat} (I : InvM vv R w) : ∀ r ∈ R, r < 2 ^ w := fun r hr => by
  obtain ⟨j, hj⟩ := List.getElem?_of_mem hr
  exact (I.at_ j r hj).1
theorem inv_uniq {vv A B : List Nat} {w : Nat} (h : Indep vv) (hl : vv.length = w) (hv : ∀ v ∈ vv, v < 2 ^ w) (a : InvM vv A w) (b : InvM vv B w) : A = B :=
  bk_ext (a.len.trans b.len.symm) a.lt b.lt fun x hx => by
    obtain ⟨y, hy, rfl⟩ := bk_onto h hl hv hx
    rw [inv_bk a hy, inv_bk b hy]
theorem inv_inv {vv R S : List Nat} {w : Nat} (hl : vv.length = w) (hv : ∀ v ∈ vv, v < 2 ^ w) (a : InvM vv R w) (b : InvM R S w) : S = vv :=
  bk_ext (b.len.trans hl.symm) b.lt hv fun x hx => by
    have h1 := bk_lt vv x
    rw [hl] at h1
    have := inv_bk b h1
    rw [inv_bk a hx] at this
    exact this
/-- the masks of an inverse are independent -/
theorem inv_indep {vv R : List Nat} {w : Nat} (a : InvM vv R w) : Indep R := fun i r hi hin => by
  have key : ∀ (L : List Nat) {x : Nat}, InS L x → InS (L.map (comb vv)) (comb vv x) := by
    intro L
    induction L with
    | nil =>
      intro x h
      rw [show x = 0 from h, comb_0]
      rfl
    | cons y L ih =>
      intro x h
      rcases h with h | h
      · exact .inl (ih h)
      · have := ih h
        rw [comb_xor] at this
        exact .inr this
  have h1 := key _ hin
  rw [(a.at_ i r hi).2] at h1
  have h2 : ∀ v ∈ (R.take i).map (comb vv), v.testBit i = false := fun v hv => by
    obtain ⟨y, hy, rfl⟩ := List.mem_map.mp hv
    obtain ⟨j, hj⟩ := List.getElem?_of_mem hy
    rw [List.getElem?_take] at hj
    split at hj
    · rename_i hlt
      rw [(a.at_ j y hj).2, pow_bit]
      exact decide_eq_false (by omega)
    · cases hj
  have := ins_bit h2 h1
  rw [pow_bit] at this
  simp at this
/-! ### a mask added to another one -/
theorem set_in {L : List Nat} {i k a b : Nat} (hi : L[i]? = some a) (hk : L[k]? = some b) (n : i ≠ k) {x : Nat} (h : InS (L.set i (a ^^^ b)) x) : InS L x := by
  refine ins_le (fun v hv => ?_) h
  rcases List.mem_or_eq_of_mem_set hv with hv | rfl
  · exact ins_mem hv
  · exact ins_xor (ins_mem (List.mem_of_getElem? hi)) (ins_mem (List.mem_of_getElem? hk))
theorem set_span {L : List Nat} {i k a b : Nat} (hi : L[i]? = some a) (hk : L[k]? = some b) (n : i ≠ k) (x : Nat) : InS (L.set i (a ^^^ b)) x ↔ InS L x := by
  refine ⟨set_in hi hk n, fun h => ?_⟩
  have li : i < L.length := (List.getElem?_eq_some_iff.mp hi).1
  have h1 : (L.set i (a ^^^ b))[i]? = some (a ^^^ b) := List.getElem?_set_self li
  have h2 : (L.set i (a ^^^ b))[k]? = some b := by rw [List.getElem?_set_ne n]; exact hk
  have e : (L.set i (a ^^^ b)).set i (a ^^^ b ^^^ b) = L := by
    rw [List.set_set, xor_cancel]
    refine List.ext_getElem? fun j => ?_
    by_cases q : i = j
    · subst q
      rw [List.getElem?_set_self li, hi]
    · rw [List.getElem?_set_ne q]
  exact set_in h1 h2 n (by rw [e]; exact h)
theorem set_indep {L : List Nat} {i k a b : Nat} (h : Indep L) (hi : L[i]? = some a) (hk : L[k]? = some b) (n : i ≠ k) : Indep (L.set i (a ^^^ b)) := by
  refine (indep_iff _).mp ?_
  have e := indep_len (red_indep (red0_red (L.set i (a ^^^ b)))) (red_indep (red0_red L)) fun x => by
    rw [red0_span, red0_span]
    exact set_span hi hk n x
  rw [e, List.length_set, indep_red h]
end GF
set_option Elab.async false
set_option maxRecDepth 100000
namespace GF
theorem inv_ex {vv : List Nat} {w : Nat} (h : Indep vv) (hl : vv.length = w) (hv : ∀ v ∈ vv, v < 2 ^ w) : ∃ R, InvM vv R w := by
  refine ⟨(List.range w).map fun j => rem (red0 (lift vv w)) (2 ^ j * 2 ^ w), ⟨by rw [List.length_map, List.length_range], fun j r hj => ?_⟩⟩
  have hjl : j < w := by
    have := (List.getElem?_eq_some_iff.mp hj).1
    rw [List.length_map, List.length_range] at this
    exact this
  rw [List.getElem?_map, List.getElem?_range hjl] at hj
  cases hj
  obtain ⟨h1, h2⟩ := rem_lift (n := w) (y := 2 ^ j) (Nat.le_of_eq hl) (red0_red (lift vv w)) (red0_span (lift vv w))
  obtain ⟨h3, h4⟩ := h2 (h1.mpr ((full_span h hl hv _).mpr (Nat.pow_lt_pow_right (by decide) hjl)))
  rw [hl] at h4
  exact ⟨h4, h3⟩
theorem low_bits (r : Nat) : ∀ n, ((List.range n).map fun i => r / 2 ^ i % 2 * 2 ^ i).sum = r % 2 ^ n
  | 0 => by rw [Nat.pow_zero, Nat.mod_one]; rfl
  | n + 1 => by
    rw [List.range_succ, List.map_append, List.sum_append, low_bits r n, Nat.mod_pow_succ]
    simp [Nat.mul_comm]
theorem bit_digit (x j : Nat) : x.testBit j = decide (x / 2 ^ j % 2 = 1) := Nat.testBit_eq_decide_div_mod_eq
/-- bit j of the address with the bank 2 ^ i is bit i of mask j of the inverse -/
theorem inv_col {vv R : List Nat} {w a i j r : Nat} (I : InvM vv R w) (ha : a < 2 ^ w) (e : bk vv a = 2 ^ i) (hj : R[j]? = some r) : a / 2 ^ j % 2 = r / 2 ^ i % 2 := by
  have h1 := inv_bk I ha
  rw [e] at h1
  have h2 : a.testBit j = r.testBit i := by
    rw [← h1, bk_bit, List.getD_eq_getElem?_getD, hj, Option.getD_some, dot_comm, dot_pow, has_bit]
  rw [bit_digit, bit_digit, decide_eq_decide] at h2
  omega
end GF
set_option Elab.async false
set_option maxRecDepth 100000
set_option maxHeartbeats 4000000
/-! enumerate over a tuple -/
namespace G
open PySem PySem.Spec PyProof.Rows L2

/-- what draws from a tuple's iterator -/
theorem draws_T {prog : Program} {w : World} {A : Around} (hh : A.handled = none) (it t : Addr) (hne : t ≠ it) (its : Array Value) :
    Draws prog w A it [it, t] its.size (fun i v => its[i]? = some v) (fun i h => IsTupIter h it t i ∧ IsTup h t its) :=
  { live := fun _ _ st => st.1.elim fun o q => ⟨o, q.1⟩
    frame := fun _ _ _ st hk => ⟨st.1.elim fun o q => ⟨o, hk it (List.mem_cons_self ..) o q.1, q.2⟩, st.2.elim fun o q => ⟨o, hk t (List.mem_cons_of_mem _ (List.mem_cons_self ..)) o q.1, q.2⟩⟩
    item := fun i s Q E hi st hQ => RZ.nextOf_tuple_item st.1 st.2 (x := its[i]) (Array.getElem?_eq_getElem hi) fun h' hit' hs' =>
      hQ _ h' s.toks (Array.getElem?_eq_getElem hi) ⟨hit', st.2.elim fun o q => ⟨o, hs'.extBut t o hne q.1, q.2⟩⟩ hs'
    done := fun s Q E st hE => RZ.nextOf_tuple_end hh st.1 st.2 (Array.getElem?_eq_none (Nat.le_refl _)) hE }

/-- enumerate(t), t a tuple: made -/
theorem meets_enum1 {v : Value} {o : Obj} {H : Heap → Prop} (B : Begins v o H) :
    Meets (Builtin.«enumerate.__new__» ⟨[.type "enumerate", v], []⟩) (fun _ R s => H s.heap ∧
      R (.ok (.ret (.ref (s.heap.objs.size + 1)))) { s with heap := (s.heap.push o).push { cls := .type "enumerate", data := .fields #[.none, .bool false, .ref s.heap.objs.size, rawInt 0, .none, .none] } }) :=
  .of_wp fun prog w A R s h => by
    obtain ⟨hp, g, d, tk, os⟩ := s
    obtain ⟨h1, h⟩ := h
    have hsub := sub_enumerate
    have hz : (hp.push o).objs.size = hp.objs.size + 1 := Heap.size_push ..
    have q1 : ∀ {A' : Around} {E : Value → Shared → Prop} {Q : Value → Shared → Prop}, Q (.ref hp.objs.size) ⟨hp.push o, g, d, tk, os⟩ → wpAny (model prog w) A' (pyIter v) Q E ⟨hp, g, d, tk, os⟩ := B.iter prog w _ _ ⟨hp, g, d, tk, os⟩ _ h1
    wp_walk using q1
    refine wpAny_stack_any fun st => wpAny_pure ?_
    split
    · rename_i c _ _ _ _ _
      cases (c == Value.type "enumerate") <;> (wp_walk using q1; exact ⟨_, hz ▸ rfl, h⟩)
    · wp_walk using q1
      exact ⟨_, hz ▸ rfl, h⟩
theorem call_enum1 {prog : Program} {w : World} {A : Around} {E : Value → Shared → Prop} {s : Shared} {v : Value} {o : Obj} {H : Heap → Prop} {Q : Value → Shared → Prop} (B : Begins v o H) (h1 : H s.heap)
    (h : ∀ h', IsEnum h' (s.heap.objs.size + 1) s.heap.objs.size 0 .none → h'.get? s.heap.objs.size = some o → (∀ b u, s.heap.get? b = some u → h'.get? b = some u) → Q (.ref (s.heap.objs.size + 1)) { s with heap := h' }) :
    wpAny (model prog w) A (call (.type "enumerate") [v]) Q E s := by
  have hz : (s.heap.push o).objs.size = s.heap.objs.size + 1 := Heap.size_push ..
  have he : IsEnum ((s.heap.push o).push { cls := .type "enumerate", data := .fields #[.none, .bool false, .ref s.heap.objs.size, rawInt 0, .none, .none] }) (s.heap.objs.size + 1) s.heap.objs.size 0 .none :=
    hz ▸ Heap.get?_push_size (s.heap.push o) rfl
  exact callType_new F.called_enumerate (by decide) (F.typeCall_enumerate_1 _) (F.newCall_enumerate_1 _) (fun obj => F.args_object_init_2 obj _) F.entry_enumerate_new (meets_enum1 B)
    ⟨h1, ⟨_, he, rfl⟩, h _ he (Heap.get?_push_of_some _ (Heap.get?_push_size _ B.free)) fun b u x => Heap.get?_push_of_some _ (Heap.get?_push_of_some _ x)⟩

/-- the tuple at a, each item in a new pair -/
def Iet (K : PySem.W.Frag) (a : Addr) : It :=
  ⟨fun i H => ∃ (xs : List V) (x : V), SqT K H a xs ∧ xs[i]? = some x, fun i H v H' => ∃ T x, v = .ref T ∧ H T = none ∧ H' = upd H T (.tup [.int (i : Nat), x]) ∧ ∀ xs, SqT K H a xs → xs[i]? = some x, fun i H => ∃ xs : List V, SqT K H a xs ∧ xs.length ≤ i⟩
theorem turn_enumT {P : Program} {w : World} {K : PySem.W.Frag} {elts : List Expr} {kk : Nat} {tpos : Pos} (a e it : Addr) (hne : e ≠ it) (hea : a ≠ e) (hia : a ≠ it) :
    Turn P w K (.Tuple elts kk tpos) (Iet K a) [e, it] e (fun i h => (∃ old, IsEnum h e it ((i : Nat) : Int) old) ∧ IsTupIter h it a i) where
  mem := List.mem_cons_self ..
  obj := fun i h ⟨⟨old, he⟩, ⟨o, ho, hc, hd⟩⟩ b hb => by
    rcases List.mem_cons.mp hb with rfl | hb
    · exact ⟨_, he, fun v q => nomatch q⟩
    · rw [List.mem_singleton.mp hb]
      exact ⟨o, ho, fun v q => by rw [hd] at q; cases q⟩
  keep := fun i h h' ⟨⟨old, he⟩, ⟨o, ho, r⟩⟩ k => ⟨⟨old, k e (List.mem_cons_self ..) _ he⟩, ⟨o, k it (List.mem_cons_of_mem _ (List.mem_cons_self ..)) o ho, r⟩⟩
  item := by
    intro X hP hw hK hc i pins s σ H E I hf ⟨⟨old, he⟩, hit⟩ ⟨xs, x, hq, hx⟩
    subst hP hw hK
    obtain ⟨its, rv, p, hz⟩ := I.tuple hq
    obtain ⟨u, hu, ru⟩ := rv.get hx
    have hel : e < s.heap.objs.size := Heap.lt_size he
    have hil : it < s.heap.objs.size := hit.elim fun o q => Heap.lt_size q.1
    have hi : i < its.toArray.size := by
      rw [List.size_toArray]
      exact (List.getElem?_eq_some_iff.mp hu).1
    refine wpAny_pyNext_enum_itemD (draws_T (prog := X.prog) (w := X.w) (A := X.A.in1) (I.ok.hd hc) it a hia its.toArray) he ⟨hit, p⟩ hi hne (by simp [hne, Ne.symm hea]) fun y h' tk hy ho hst hT hsz hk => ?_
    obtain rfl : u = y := Option.some.inj (hu.symm.trans (by simpa using hy))
    refine ⟨_, rfl, wpAny_letOwnedTupleGo_enum (s := { s with heap := h', toks := tk + 1 }) ho fun h2 he2 sb => ?_⟩
    have nT : ∀ b ∈ [e, it], b < s.heap.objs.size := fun b hb => by
      rcases List.mem_cons.mp hb with rfl | hb
      · exact hel
      · rw [List.mem_singleton.mp hb]
        exact hil
    have new : ObjOk X.prog X.w (upd H s.heap.objs.size (.tup [.int (i : Nat), x])) h2 s.heap.objs.size (.tup [.int (i : Nat), x]) :=
      ⟨by show 2 ≤ sizeLine; decide, [.int i tk, u], .cons ⟨_, rfl⟩ (.cons ru .nil), ⟨_, (sb.2 _ (Nat.ne_of_gt hel)).trans hT, rfl, _, rfl⟩⟩
    refine ⟨.ref s.heap.objs.size, _, I.turnedNew (t' := tk + 1) (ch := [e, it]) (fun b ob hb q => (sb.2 b fun z => hb (z ▸ List.mem_cons_self ..)).trans (hk b ob (fun z => hb (z ▸ List.mem_cons_self ..)) (fun z => hb (z ▸ List.mem_cons_of_mem _ (List.mem_cons_self ..))) q)) hf (Nat.le_refl _) new,
      rfl, ⟨_, x, rfl, I.hok.fresh (Nat.le_refl _), rfl, fun ys hy => by rw [I.tuple_inj hy hq]; exact hx⟩, ⟨⟨u, ?_⟩, hst.1.elim fun o q => ⟨o, (sb.2 it (Ne.symm hne)).trans q.1, q.2⟩⟩, fun b hb => ?_⟩
    · rw [Int.natCast_add]
      exact he2
    · rw [upd_ne (Nat.ne_of_lt (nT b hb))]
      exact (hf b hb).1
  done := by
    intro X hP hw hK hc i pins s σ H E I hf ⟨⟨old, he⟩, hit⟩ ⟨xs, hq, hx⟩
    subst hP hw hK
    obtain ⟨its, rv, p, hz⟩ := I.tuple hq
    obtain ⟨f0, f1, f2, f3, f4, f5⟩ := hf it (List.mem_cons_of_mem _ (List.mem_cons_self ..))
    have hl : its.length ≤ i := by
      have := rv.length
      omega
    have hT : s.TypeIs (.ref e) "enumerate" := ⟨_, he, rfl⟩
    unfold pyNext
    refine wpAny_bind (wpAny_attempt (wpAny_callSpecial?_slot (name := Str.ofString "__next__") hT F.slot_enumerate_next (wpAny_call_entry F.slot_enumerate_next hT F.entry_enumerate_next ?_ (F.args_enumerate_next_1 _))))
    refine wpAny_bind (m := field (.ref e) 2) (wpAny_field he rfl (x := .ref it) rfl ?_)
    refine wpAny_bind (RZ.nextOf_tuple_end (I.ok.hd hc) hit p (by simpa using hl) fun h' y hk ⟨o, ho, hc'⟩ => ?_)
    exact wpAny_bind (wpAny_isInstance (T := "StopIteration") (b := true) ⟨o, ho, hc'⟩ isSubtype_stop (wpAny_pure ⟨rfl, I.turned (t' := s.toks) (fun b o hb q => hk b o hb q) f0 f1 f3 f4 f5⟩))
  self := fun A i s Q E ⟨⟨_, he⟩, _⟩ h => wpAny_pyIter_enum he h

def iEnumT (K : PySem.W.Frag) (ta : TA) : TI := fun σ H R => ta σ H fun vs H1 => ∃ a xs, vs = [.ref a] ∧ SqT K H1 a xs ∧ R (Iet K a) H1
theorem pi_enumT {X : Cx} {e : Expr} {ta : TA} {p pos tpos : Pos} {elts : List Expr} {kk : Nat} (hg : Gl X "enumerate") (hm : X.mg "enumerate" = none) (ha : PA X [e] ta) (hs : starEach [e] X.env = [(false, eval e X.env)] := by rfl) :
    PI X (.Tuple elts kk tpos) (.Call (.Name "enumerate" p) [e] [] pos) (iEnumT X.K ta) := by
  refine ⟨fun pins s σ H R I h => Call_ (ld_blt I hg hm boot_enumerate (PyProof.Rows.callWith_type1 (thn (ha.run pos pins s σ H _ I h) fun us s1 ⟨vs, H1, I1, r1, a, xs, ex, hq, q⟩ => ?_) hs rfl))⟩
  subst ex
  cases r1 with
  | cons r rr =>
    cases rr
    cases r
    obtain ⟨its, rv, p', hz⟩ := I1.tuple hq
    have ha : a < s1.heap.objs.size := p'.elim fun o q => Heap.lt_size q.1
    refine call_enum1 (begins_tuple a its.toArray) p' fun h' he hit hk => wpAny_pyIter_enum he ?_
    refine ⟨s1.heap.objs.size + 1, [s1.heap.objs.size + 1, s1.heap.objs.size], _, _, H1, rfl, I1.kept (t' := s1.toks) hk, turn_enumT a (s1.heap.objs.size + 1) s1.heap.objs.size (Nat.succ_ne_self _) (Nat.ne_of_lt (Nat.lt_succ_of_lt ha)) (Nat.ne_of_lt ha), ⟨⟨.none, he⟩, ⟨_, hit, rfl, rfl⟩⟩, fun b hb => ?_, q⟩
    have hle : s1.heap.objs.size ≤ b := by
      rcases List.mem_cons.mp hb with z | z
      · rw [z]
        exact Nat.le_succ _
      · rw [List.mem_singleton.mp z]
        exact Nat.le_refl _
    exact I1.fpOk hle (I1.hok.fresh hle)
theorem walk_enumT {K : PySem.W.Frag} {a : Addr} {xs : List V} : Walk (Iet K a) xs.length (fun H => SqT K H a xs) (YPair (fun i => some (.int (i : Nat))) (fun i => xs[i]?)) where
  goes := fun i H hi h => ⟨xs, xs[i], h, List.getElem?_eq_getElem hi⟩
  stops := fun H h => ⟨xs, h, Nat.le_refl _⟩
  yields := fun i H x H' hi h ⟨T, y, e1, e2, e3, e4⟩ => ⟨T, _, y, e1, e2, e3, rfl, e4 xs h⟩
end G
set_option Elab.async false
set_option maxRecDepth 100000
set_option maxHeartbeats 4000000
/-! d.update(e), sorted(d) -/
namespace G
open PySem PySem.Spec PyProof.Rows L2
section
variable {X : Cx}
theorem mt_dupd : MtR X "dict.update" (fun x xs H Q => ∃ (a b : Addr) (kvs more : List (Key × V)), x = .ref a ∧ xs = [.ref b] ∧ H a = some (.dK kvs) ∧ H b = some (.dK more) ∧ a ≠ b ∧ kvs.length + more.length ≤ sizeLine ∧ Q .non (upd H a (.dK (mergeK kvs more)))) := by
  intro pins s σ H x xs v us Q I rx rxs h
  obtain ⟨a, b, kvs, more, rfl, rfl, ha, hb, hne, hsz, q⟩ := h
  cases rx
  obtain ⟨u, rfl, ru⟩ := vals1 rxs
  cases (show u = Value.ref b from ru)
  obtain ⟨z1, lo1, vs, rel1, dd1⟩ := dk_of I.hok ha
  obtain ⟨z2, lo2, ws, rel2, dd2⟩ := dk_of I.hok hb
  refine call_meetsIn PySem.F.slot_dict_update dd1.typeIs PySem.F.entry_dict_update (PySem.F.args_dict_update_2 _ _) (meets_dict_update (mixKind X.prog X.w) a b hne lo2)
    ⟨vs, ws, dd1, dd2, by rw [← rel1.length, ← rel2.length]; exact hsz, fun h' hd' _ hs => ?_⟩
  have he : ∃ q, h'.get? a = some q := let ⟨q, _, _, hq, _⟩ := hd'; ⟨q, hq⟩
  exact ⟨.non, _, d_write (t' := s.toks) I (by rw [ha]; exact True.intro) hs he (dk_new (Nat.le_trans (length_mergeK more kvs) hsz) lo1 (KV.merge rel2 rel1) hd'), rfl, q⟩
/-- sorted(d), a dict of ints of any length -/
theorem cr_sortedAny (hcalm : X.calm = true) : CallR X (.builtin "sorted") (fun xs H Q => ∃ (a : Addr) (kvs : List (Key × V)) (ks : List Int), xs = [.ref a] ∧ Rd H a (.dK kvs) ∧ kvs.map (·.1) = ks.map Sum.inl ∧
    ∀ (ys : List Int) (p : Addr), ys.Perm ks → ys.Pairwise (· ≤ ·) → H p = none → Q (.ref p) (upd H p (.lst (ys.map V.int)))) := by
  intro pins s σ H xs us Q I r ⟨a, kvs, ks, ex, hd, hks, q⟩
  subst ex
  obtain ⟨u, rfl, rx⟩ := vals1 r
  cases (show u = Value.ref a from rx)
  obtain ⟨z, lo, vs, rel, dd⟩ := dk_rd I.hok hd
  obtain ⟨ep, hat⟩ := dd.dictAt
  have hkeys : vs.map (·.1) = ks.map Sum.inl := rel.keys.symm.trans hks
  have hl : vs.length = ks.length := by simpa using congrArg List.length hkeys
  have h16 : vs.length ≤ sizeLine := rel.length ▸ z
  refine Calls.call_function_entry PyProof.Rows.kind_sorted PyProof.Rows.plain_sorted PyProof.Rows.entry_sorted (PyProof.Rows.args_sorted1 _) ?_
  refine wpAny_bind (m := checkCount "sorted" 1 1 _) (wpAny_pure (wpAny_bind (PySem.W.kdu_collect (A := X.A.in1) (PySem.W.kdl_dict (knd := mixKind X.prog X.w) (kvs := vs) (ep := ep) lo) (I.ok.hd hcalm) hat h16 fun h' tk acc hk hacc => ?_)))
  have hal : acc.toList.length = ks.length := by rw [Array.length_toList, hacc.1, hl]
  have hS : IntsAre acc.toList ks := ints_each hal fun j v e => by
    obtain ⟨k, x, e1, e2⟩ := hacc.2 j v ((Array.getElem?_toList ..).symm.trans e)
    have e3 : (ks.map (Sum.inl : Int → Key))[j]? = some k := by rw [← hkeys, List.getElem?_map, e1]; rfl
    rw [List.getElem?_map] at e3
    obtain ⟨y, e4, e5⟩ := Option.map_eq_some_iff.mp e3
    subst e5
    rcases keyIs_shape (show keyIs (Sum.inl y) v = true from e2) with ⟨i, t, ek, ev⟩ | ⟨z, t, ek, ev⟩
    · cases ek
      exact ⟨y, t, e4, ev⟩
    · cases ek
  have I1 : Inv X pins σ H { s with heap := h', toks := tk } := I.kept hk
  refine wpAny_bind (wpAny_newList ?_ (by rw [hal, ← hl]; exact h16))
  have hoL : (h'.push (seqObj "list" acc.toList.toArray 0)).get? h'.objs.size = some (seqObj "list" acc.toList.toArray 0) := Heap.get?_push_size _ rfl
  refine wpAny_bind (s := { s with heap := h'.push (seqObj "list" acc.toList.toArray 0), toks := tk }) (wpAny_holding (wpAny_call_entry PyProof.Rows.slot_list_sort ⟨_, hoL, rfl⟩ PyProof.Rows.entry_list_sort
    (SrtO.list_sort_ord (s := { s with heap := h'.push (seqObj "list" acc.toList.toArray 0), toks := tk }) SrtO.swo_int hoL (by rw [hal, ← hl]; exact h16) (fun h2 => SrtO.ints_sortable hS h2) fun out s1 s2 => ⟨_, rfl, ?_⟩) (PyProof.Rows.args_list_sort _)))
  obtain ⟨g1, g2, g3⟩ := SrtO.ints_out hS s1 s2
  obtain ⟨e', he'⟩ := PyProof.Rows.sortedHeap_at (vs := acc.toList) (out := out.toArray) hoL
  have hlen : ((out.map SrtO.iv).map V.int).length ≤ sizeLine := by
    rw [List.length_map, g2.length_eq, ← hl]
    exact h16
  refine wpAny_pure ⟨_, rfl, .ref h'.objs.size, upd H h'.objs.size (.lst ((out.map SrtO.iv).map V.int)), I1.laid (t' := tk) (fun b u e => ?_) (Nat.le_refl _)
    (show ObjOk X.prog X.w _ _ _ (.lst ((out.map SrtO.iv).map V.int)) from ⟨hlen, out, e', vals_of_ints g1, he'⟩), rfl, q _ _ g2 g3 (I1.hok.fresh (Nat.le_refl _))⟩
  have hb : b < h'.objs.size := Heap.lt_size e
  rw [PyProof.Rows.sortedHeap_old (Nat.ne_of_lt hb) (by rw [size_push']; exact Nat.lt_succ_of_lt hb)]
  exact Heap.get?_push_of_some _ e
end
end G
set_option Elab.async false
set_option maxRecDepth 100000
set_option maxHeartbeats 4000000
/-! own exceptions whose __init__ calls the base's by its class -/
namespace G
open PySem PySem.Spec PyProof.Rows L2
/-- the def fI stands in the class C under n -/
structure ClsFn (K : PySem.W.Frag) (C fI : Addr) (n : Str) : Prop where
  ga : PySem.W.specialIn K (.ref C) "__getattribute__" = some (some (.builtin "type.__getattribute__"))
  rd : PySem.W.readsIn K C (.type "type") = true
  at_ : PySem.W.findCls K (.ref C) (.type "type") n = some (.val (.ref fI))
  kp : PySem.W.keepIn K (.ref fI) = true
section
variable {X : Cx} {CX : CXT} {k : Nat} {C fI : Addr} {fd : FuncData} {ps : List Str} {sp : Sp} {dvs : List V} {ds : List Value} {E : XK} {x n : Str} {p1 p2 pos : Pos} {e : Expr} {es : List Expr} {t : TA}
/-- C.n(e, ..) -/
theorem pe_clsfn {pl : Sem Bool} (F : FnOk X.prog X.w X.K X.mg X.base CX k fI fd ps sp) (hr : Room k X.A) (c : ClsFn X.K C fI n) (hg : Gl X x) (hm : X.mg x = some (.ref C)) (hb : Binds X.K fd ps ds) (hd : Vals dvs ds) (hx : Passes CX X E) (ha : PA X (e :: es) t)
    (hc : eval (.Call (.Attribute (.Name x p1) n p2) (e :: es) [] pos) X.env = (do
      let ov ← eval (.Name x p1) X.env
      standAt p2.atName
      let (f, first) ← holding [ov] (getMethod ov n pl)
      callWith pos f first (backTo pos (starEach (e :: es) X.env)) (backToKw pos (keywordEach [] X.env))) := by rfl)
    (hdb : (x == ("__debug__" : Str)) = false := by decide) (he : starEach (e :: es) X.env = (false, eval e X.env) :: starEach es X.env := by rfl) (hpl : (backTo pos (starEach es X.env)).any (·.1) = false := by rfl) :
    PE X (.Call (.Attribute (.Name x p1) n p2) (e :: es) [] pos) (tCall sp dvs E t) := by
  refine ⟨fun pins s σ H Q I h => ?_⟩
  refine PySem.W.methodCall_KW (ld_glob I hg hm ?_ hdb) hc
  refine PySem.W.method_cls I.kIn c.ga (PySem.W.cls_value I.kIn c.rd c.at_ (handed_of (v := .ref fI) rfl) ?_)
  refine PySem.W.callWith_K (h₀ := X.base) I.ok.mod.kin c.kp (thn (ha.run pos pins _ σ H _ (I.tok _) h) fun us s1 ⟨vs, H1, I1, r, q⟩ => ⟨I1.kIn, ?_⟩) he hpl
  exact run_fn F hr hb hd hx I1 r q
end
/-- a def of the text that may have defaults -/
structure FunD (K : PySem.W.Frag) (x qual : Str) (st : Stmt) (f : Addr) (fd : FuncData) : Prop where
  ex : ∃ (oc : Value) (od : Option Addr) (dV kV doc pm : Value) (an : Option Addr) (cdv ct : Value) (osl : Array (Option Value)),
    fd = PySem.W.fnOf x qual (defArgs st) (defBody st) (defScope st) dV kV doc pm an cdv ct ∧ K.lookup f = some ⟨oc, od, .func fd, osl⟩ ∧ PySem.W.codeIn K cdv qual = true
/-- what __init__(self, value) leaves: the field -/
def spInit : PySem.W.Frag → Sp := fun K vs H Q _ => ∃ (a C : Addr) (v : V), vs = [.ref a, v] ∧ OexC K C ∧ PySem.W.findIn K (.ref C) "value" = some none ∧ H a = some (exo a C none) ∧
  ∀ dx, H dx = none → dx ≠ a → Q .non (upd (upd H dx (exd dx [("value", v)])) a (exo a C (some dx)))
section
variable {P : Program} {w : World} {K : PySem.W.Frag} {mg : Str → Option Value} {base : Heap}
/-- such a def by its body -/
theorem FunD.ok {x qual : Str} {st : Stmt} {f : Addr} {fd : FuncData} {N ps : List Str} {k : Nat} {sp : Sp} (F : FunD K x qual st f fd) (S : FnScope N ps (defScope st)) (len : ∀ vs H Q E, sp vs H Q E → vs.length = ps.length)
    (body : ∀ (cdv : Value) (A : Around) (outer : List Env) (s : Shared) (H : Hp) (vs : List V) (Q : VK) (E : XK), Room k (A.deeper (envOfC qual (defScope st) s.heap.objs.size f cdv)) → sp vs H Q E →
      ∃ t, PSs (cxOf CX0 P w K mg base N qual (defScope st) f cdv A outer s H E).nox (defBody st) t ∧ t { nx := fun _ H' => Q .non H', rt := Q } (start N vs) H) : FnOk P w K mg base CX0 (k + 1) f fd ps sp := by
  obtain ⟨oc, od, dV, kV, doc, pm, an, cdv, ct, osl, rfl, lk, hcd⟩ := F.ex
  refine fn_of lk hcd S len fun A outer s H vs Q E hr h => ?_
  obtain ⟨t, h1, h2⟩ := body cdv A outer s H vs Q E hr h
  exact ⟨t, h1.nox, h2⟩
end
/-- what is raised: the class, its value -/
def Flies (C : Addr) (v : V) (E : XK) (H : Hp) : Prop := ∀ (d : Addr) (H' : Hp), (∀ b u, H b = some u → H' b = some u) → H d = none → H' d = some (.xd [("value", v)]) → E (.ref C) (some d) H'
theorem mkO_of {K : PySem.W.Frag} {C : Addr} {v : V} {E : XK} {H1 : Hp} (T : OexC K C) (hno : PySem.W.findIn K (.ref C) "value" = some none) (h : Flies C v E H1) : ([v] : List V).length ≤ 1000 ∧ ∀ a, H1 a = none →
    spInit K (.ref a :: ([v] ++ [])) (upd H1 a (exo a C none)) (fun u H2 => u = .non ∧ ∃ (d : Addr) (fs : List (Str × V)), H2 a = some (exo a C (some d)) ∧ H2 d = some (exd d fs) ∧ H1 d = none ∧ E (.ref C) (some d) (upd (del H2 a) d (.xd fs))) (fun _ _ _ => False) := by
  refine ⟨by show 1 ≤ 1000; decide, fun a ha => ⟨a, C, v, rfl, T, hno, upd_same, fun dx hdx ne => ?_⟩⟩
  rw [upd_ne ne] at hdx
  refine ⟨rfl, dx, [("value", v)], upd_same, (upd_ne ne).trans upd_same, hdx, h dx _ (fun b u e => ?_) hdx upd_same⟩
  have n1 := ne_of_none e hdx
  have n2 := ne_of_none e ha
  rw [upd_ne n1, del_ne n2, upd_ne n2, upd_ne n1, upd_ne n2]
  exact e
end G
set_option Elab.async false
set_option maxRecDepth 100000
set_option maxHeartbeats 8000000
/-! a caught exception that stays known behind the except suite -/
namespace G
open PySem PySem.Spec PyProof.Rows L2
/-- at a: an exception of the class cls, its dict d -/
def exk (cls : Value) (d : Option Addr) (a : Addr) : HO := .ext fun h => ∃ (oe : Obj) (vs : Array Value), h.get? a = some oe ∧ oe.cls = cls ∧ oe.dict = d ∧ oe.data = .fields vs
theorem exk_at {P : Program} {w : World} {H : Hp} {h : Heap} {a : Addr} {cls : Value} {d : Option Addr} (hok : HOk P w H h) (e : H a = some (exk cls d a)) : ∃ (oe : Obj) (vs : Array Value), h.get? a = some oe ∧ oe.cls = cls ∧ oe.dict = d ∧ oe.data = .fields vs := by
  have x : ObjOk P w H h a (.ext fun h => ∃ (oe : Obj) (vs : Array Value), h.get? a = some oe ∧ oe.cls = cls ∧ oe.dict = d ∧ oe.data = .fields vs) := hok a _ e
  exact x.1
section
variable {X : Cx} {pins : List (Addr × Obj)} {σ : L2.St} {H : Hp} {s : Shared}
/-- what nobody has told of is told of now -/
theorem adopt {a : Addr} {oe : Obj} {vs : Array Value} {cls : Value} {d : Option Addr} (I : Inv X pins σ H s) (ha : s.heap.get? a = some oe) (hz : Zc cls d oe) (hd : oe.data = .fields vs) (na : H a = none) (nL : a ≠ X.env.locals) (n0 : X.s_0.heap.get? a = none)
    (np : ∀ p ∈ X.pn ++ pins, p.1 ≠ a) : Inv X pins σ (upd H a (exk cls d a)) s := by
  have keep : ∀ {b : Addr} {u : HO}, H b = some u → upd H a (exk cls d a) b = some u := fun {b u} e => (upd_ne (ne_of_none e na)).trans e
  refine ⟨I.ok, I.os, I.bare, ⟨I.base.keep, I.base.slot, fun b o e n x => ?_, I.base.there, fun b xs e => keep (I.base.tups b xs e), fun b o u e => keep (I.base.frzs b o u e), fun b ps e => (I.base.tbls b ps e).elim fun m q => ⟨m, keep q⟩⟩, I.loc, I.cell, (upd_ne nL.symm).trans I.free, fun x c e => ?_, fun p hp => ?_, fun b u e => ?_, I.len⟩
  · have nb : b ≠ a := fun z => by
      rw [z, n0] at e
      cases e
    exact (upd_ne nb).trans (I.base.free b o e n x)
  · obtain ⟨v, o, ho, hv⟩ := I.cell x c e
    have nc : c ≠ a := fun z => by
      rw [z, ha] at ho
      cases ho
      rw [hd] at hv
      cases hv
    exact (upd_ne nc).trans (I.freeC x c e)
  · obtain ⟨p1, p2, p3⟩ := I.pin p hp
    exact ⟨p1, (upd_ne (np p hp)).trans p2, p3⟩
  · by_cases hb : b = a
    · subst hb
      rw [upd_same] at e
      cases e
      exact ⟨⟨oe, vs, ha, hz.1, hz.2, hd⟩, ⟨oe, ha⟩, fun h1 h2 ⟨o1, v1, q1, q2⟩ k => ⟨o1, v1, k _ q1, q2⟩⟩
    · rw [upd_ne hb] at e
      exact (I.hok b u e).stay (fun _ _ _ q => q) (fun _ q => keep q) fun _ _ q => keep q
end
/-- what the clause wishes of an exception of the body: slot i is the clause's name; behind the suite the exception is known -/
def wKeep (K : PySem.W.Frag) (c : Value) (i : Nat) (ts : Addr → Value → Option Addr → TS) (Wout : WX) (D : Ends) : WX := fun cls d σ H =>
  ∃ b, PySem.W.exmOne K cls c = some b ∧ (b = true → ∀ a, H a = none → ts a cls d { nx := fun σ' H' => D.nx (σ'.set i none) (upd H' a (exk cls d a)), rt := fun _ _ => False } (σ.set i (some (.ref a))) H) ∧ (b = false → Wout cls d σ H)
section
variable {X : Cx} {x n : Str} {c : Value} {i : Nat} {body suite : List Stmt} {b0 : Stmt} {np pos pos' : Pos} {tb : WX → TS} {ts : Addr → Value → Option Addr → TS} {Wout : WX}
theorem ps_try_keep (hst : X.stack = X.env :: X.outer) (hfr0 : X.env.frame = some X.env.locals) (hex : X.ex = []) (hN : X.N.Nodup) (hi : X.N[i]? = some n) (hln : X.env.kindOf n = some .local) (hc : Names X x c) (tk : Takes X Wout)
    (hb : ∀ (W : WX) (pn : List (Addr × Obj)) (xe : Value → Shared → Prop), Takes (X.tr pn xe) W → PassesOwn (model X.prog X.w) X.A X.env xe → PSs (X.tr pn xe) body (tb W))
    (hsu : ∀ (a : Addr) (oe : Obj) (cls : Value) (d : Option Addr) (pn : List (Addr × Obj)), Zc cls d oe → (∃ vs, oe.data = .fields vs) → PSs (X.suite a ((a, oe) :: pn)) (b0 :: suite) (ts a cls d)) :
    PS X (.Try body [.ExceptHandler (some (.Name x np)) (some n) (b0 :: suite) pos'] [] [] pos) (fun D σ H => tb (wKeep X.K c i ts Wout D) D σ H) := by
  refine ⟨fun pins s σ H D I h => wpAny_Try_except ?_⟩
  have ok := I.ok
  have fr := ok.frames.trans (congrArg some hst)
  let after : Value → Shared → Prop := fun e s1 => wpAny (model X.prog X.w) X.A (noteFrame e X.env) (fun _ s2 => wpAny (model X.prog X.w) X.A (setFlight e none)
    (fun _ s3 => wpAny (model X.prog X.w) X.A (handleBy e X.env [.ExceptHandler (some (.Name x np)) (some n) (b0 :: suite) pos']) (SP X pins D) X.xe s3) X.xe s2) X.xe s1
  have caught : Takes (X.tr (X.pn ++ pins) after) (wKeep X.K c i ts Wout D) := fun u s' xx => by
    obtain ⟨a, B, sI, pins', σ', H', cls, d, rfl, J', nb, up, sky, na, os, ag, b, hb1, hyes, hno⟩ := xx
    have J : Inv X pins σ' H' sI := J'.ofTry ok
    have sky : Sky B X.stack a (Zc cls d) X.env.locals s'.heap := sky
    rw [hst] at sky
    have nB : B.get? a = none := by
      rcases sky with z | z | z
      · exact z.2.1
      · exact z.2.1
      · exact z.2.1
    show wpAny (model X.prog X.w) X.A (noteFrame (.ref a) X.env) (fun _ _ => _) _ _
    refine Sky.land Zc.steady fr hfr0 sky fun h3 fl3 up3 => ?_
    have J3 : Inv X pins σ' H' { s' with heap := h3 } := J.landed nb fl3.1 (up.trans up3) os ag
    obtain ⟨oe3, vs3, he3, hz3, hd3⟩ := fl3.there
    have notFr : a ∉ frs (X.env :: X.outer) := fun hm => by
      obtain ⟨_, o', e', hnf⟩ := fl3.2.2.1.mem hm
      have := he3.symm.trans e'
      cases this
      exact hnf _ hd3
    have nL : a ≠ X.env.locals := fun z => notFr (List.mem_filterMap.mpr ⟨X.env, List.mem_cons_self, by rw [hfr0, z]⟩)
    have nF : a ∉ X.fs := fun hm => (List.mem_filterMap.mp hm).elim fun e q => notFr (List.mem_filterMap.mpr ⟨e, List.mem_cons_of_mem _ q.1, q.2⟩)
    have inB : ∀ p ∈ X.pn ++ pins, p.1 ≠ a := fun p hp z => by
      obtain ⟨p1, p2, p3, p4, p5⟩ := J.pin p hp
      have hnf : p.1 ∉ frs X.stack := fun hm => by
        rw [hst] at hm
        obtain ⟨e, he, q⟩ := List.mem_filterMap.mp hm
        rcases List.mem_cons.mp he with y | y
        · rw [y, hfr0] at q
          exact p3 (Option.some.inj q).symm
        · exact p4 (List.mem_filterMap.mpr ⟨e, y, q⟩)
      have := nb _ _ p1 hnf
      rw [z, nB] at this
      cases this
    have n0 : X.s_0.heap.get? a = none := by
      cases e : X.s_0.heap.get? a with
      | none => rfl
      | some o =>
        obtain ⟨o', e'⟩ := J.base.there a o e (by rw [hex]; simp)
        have := nb _ _ e' (by rw [hst]; exact notFr)
        rw [nB] at this
        cases this
    refine wpAny_handleBy_cons (codeAny_handlers_test ?_) (by intro q; cases q)
    have S3 := J3.suite he3 hd3 na nL nF
    have LT : PySem.W.Looks (model X.prog X.w) h3 (typeOf (.ref a)) cls := fun A Q E s k q => wpAny_typeOf_ref (k _ _ he3) (hz3.1 ▸ q)
    have LM := PySem.W.exm_one (M := model X.prog X.w) J3.kIn LT hb1
    have test : ∀ {Q : Value → Shared → Prop} {E : Value → Shared → Prop}, Q c { s' with heap := h3 } → wpAny (model X.prog X.w) (X.A.mark (some (.ref a))) (eval (.Name x np) X.env) Q E { s' with heap := h3 } := fun q => by
      obtain ⟨hg, hdbg, z⟩ := hc
      rcases z with hm | ⟨hm, hv, hnn⟩
      · exact ld_glob (X := X.suite a ((a, oe3) :: (X.pn ++ pins))) S3 hg hm q hdbg
      · exact ld_blt (X := X.suite a ((a, oe3) :: (X.pn ++ pins))) S3 hg hm hv q hnn hdbg
    refine test (LM.here ?_)
    cases b with
    | true =>
      refine codeAny_handlers_suite_as (HandSPX.lands_againZ fl3 fun h4 fl4 up4 => ?_)
      obtain ⟨oe4, vs4, he4, hz4, hd4⟩ := fl4.there
      have S4 := (J.landed (s' := { s' with heap := h4 }) nb fl4.1 ((up.trans up3).trans up4) os ag).suite he4 hd4 na nL nF
      refine store_ok (X := X.suite a ((a, oe4) :: (X.pn ++ pins))) (v := .ref a) S4 hN hi (.inl hln) rfl (fun s5 S5 => ?_) (.inr hln)
      refine wpAny_mono ((hsu a oe4 cls d (X.pn ++ pins) hz4 ⟨_, hd4⟩).run [] s5 _ H' _ S5 (hyes rfl a na)) (fun f s6 q6 => ?_) (fun _ _ z => False.elim z)
      cases f with
      | next =>
        obtain ⟨σ6, H6, S6, q7⟩ := q6
        refine gone_ok (X := X.suite a ((a, oe4) :: (X.pn ++ pins))) S6 hN hi hln fun s7 S7 => ?_
        obtain ⟨e7, n7, _⟩ := S7.pin (a, oe4) (List.mem_append_left _ List.mem_cons_self)
        exact ⟨_, _, adopt (S7.unsuite ok) e7 hz4 hd4 n7 nL n0 inB, q7⟩
      | brk => exact q6.elim fun _ z => z.elim fun _ y => y.2.elim
      | cont => exact q6.elim fun _ z => z.elim fun _ y => y.2.elim
      | ret u => exact q6.elim fun _ z => z.elim fun _ y => y.elim fun _ x => x.2.2.elim
    | false =>
      show wpAny _ X.A (handleBy (.ref a) X.env []) _ _ _
      refine wpAny_handleBy_nil ?_
      obtain ⟨k1, k2, k3, oe, vs, T, oT, ts', he, hz, hd, h1, hr⟩ := id fl3
      unfold PySem.passOn
      refine wpAny_bind (wpAny_field he hd h1 ?_)
      rw [if_neg (show ¬ ((Value.ref T == Value.none) = true) by simp)]
      have fin : wpAny (model X.prog X.w) X.A (setFlight (.ref a) X.env.frame) (fun _ s4 => wpAny (model X.prog X.w) X.A (throw (.ref a) : Sem Flow) (SP X pins D) X.xe s4) X.xe { s' with heap := h3 } := by
        rw [hfr0]
        exact HandSPX.setFlight_upZ fl3 fun h4 hh4 up4 => wpAny_throw (tk _ _ ⟨a, B, sI, pins, σ', H', cls, d, rfl, J, nb, (up.trans up3).trans up4, .inr (.inr (hst ▸ hh4)), na, os, ag, hno rfl⟩)
      first
        | exact wpAny_bind (wpAny_pure (wpAny_bind fin))
        | exact wpAny_bind fin
  refine wpAny_mono ((hb _ (X.pn ++ pins) after caught PassesOwn.looking).run [] s σ H D (I.toTry _) h) (fun f s1 q => ?_) (fun e s1 he => he)
  cases f with
  | next =>
    obtain ⟨σ', H', J', q⟩ := q
    exact wpAny_execs_nil ⟨σ', H', J'.ofTry ok, q⟩
  | brk => exact q.elim fun σ' z => z.elim fun H' y => ⟨σ', H', y.1.ofTry ok, y.2⟩
  | cont => exact q.elim fun σ' z => z.elim fun H' y => ⟨σ', H', y.1.ofTry ok, y.2⟩
  | ret u =>
    obtain ⟨v, σ', H', J', r, q⟩ := q
    exact ⟨v, σ', H', J'.ofTry ok, r, q⟩
end
end G
set_option Elab.async false
set_option maxRecDepth 100000
set_option maxHeartbeats 4000000
/-! isinstance and fields of a kept exception -/
namespace G
open PySem PySem.Spec PyProof.Rows L2
/-- what the written part says of the exception class at C -/
structure KxC (K : PySem.W.Frag) (C : Addr) : Prop where
  cl : PySem.W.isClsIn K C = true
  ga : PySem.W.findIn K (.ref C) "__getattribute__" = some (some (.builtin "BaseException.__getattribute__"))
  gg : PySem.W.findIn K (.ref C) "__getattr__" = some none
  sb : PySem.W.subIn K (.ref C) (.type "BaseException") = some true
  hd : PySem.W.hasDictIn K C = true
  ha : PySem.W.findIn K (.ref C) "__class__" = some (some (.builtin "object.__class__"))
  hn : PySem.W.specialIn K (.builtin "object.__class__") "__get__" = some (some (.builtin "getset_descriptor.__get__"))
  ht : PySem.W.takesIn K (.builtin "object.__class__") = some true
  hm : PySem.W.mroIn K C (.type "object") = some true
theorem kit_self {K : PySem.W.Frag} {C : Addr} : PySem.W.kitOne K (.ref C) (.ref C) = some true := if_pos (by simp)
theorem kit_ref {K : PySem.W.Frag} {t : Value} {D : Addr} {b : Bool} (hn : (t == Value.ref D) = false) (hc : PySem.W.isClsIn K D = true) (ht : PySem.W.typeIn K (.ref D) = some (.type "type")) (hs : PySem.W.subIn K t (.ref D) = some b) : PySem.W.kitOne K t (.ref D) = some b := by
  unfold PySem.W.kitOne
  rw [hn, if_neg (by decide)]
  show (if ((PySem.W.clsIn K D).isSome && PySem.W.typeIn K (.ref D) == some (.type "type")) = true then PySem.W.subIn K t (.ref D) else none) = _
  rw [if_pos (by rw [show (PySem.W.clsIn K D).isSome = true from hc, ht]; rfl)]
  exact hs
/-- a kept exception whose dict is known -/
def Kept (K : PySem.W.Frag) (H : Hp) (a C : Addr) (fs : List (Str × V)) : Prop := ∃ dd : Addr, H a = some (exk (.ref C) (some dd) a) ∧ H dd = some (.xd fs) ∧ KxC K C
theorem kept_inst {X : Cx} {pins : List (Addr × Obj)} {σ : L2.St} {H : Hp} {s : Shared} {a C : Addr} {fs : List (Str × V)} (I : Inv X pins σ H s) (k : Kept X.K H a C fs) :
    ∃ (oe od : Obj) (mA : Str → Option Value), PySem.W.InstAt s.heap a oe C (some od) ∧ (∀ n : Str, PySem.W.lookIn n od = some (mA n)) ∧ ∀ f, RelO (fs.lookup f) (mA f) := by
  obtain ⟨dd, ha, hd, _⟩ := k
  obtain ⟨oe, vs, e1, e2, e3, e4⟩ := exk_at I.hok ha
  have hx : ObjOk X.prog X.w H s.heap dd (.xd fs) := I.hok dd _ hd
  obtain ⟨mA, hns, hr⟩ := hx
  obtain ⟨od, ho, hl⟩ := lookIn_ns hns
  exact ⟨oe, od, mA, ⟨e1, e2, by unfold PySem.W.notCls; rw [e4] <;> rfl, by rw [e3]; exact ho⟩, hl, hr⟩
/-- isinstance(x, c): x a kept exception, or any other value that is known -/
def rIsx (K : PySem.W.Frag) : List V → Hp → VK → Prop := fun xs H Q => ∃ (x c : V) (u : Value) (b : Bool), xs = [x, c] ∧ ClsV c u ∧
  ((∃ (a C : Addr) (fs : List (Str × V)), x = .ref a ∧ Kept K H a C fs ∧ PySem.W.kitOne K (.ref C) u = some b) ∨ ∃ t, TyX K H x t ∧ PySem.W.kitOne K t u = some b) ∧ Q (.bl b) H
theorem call_isx {X : Cx} : CallR X (.builtin "isinstance") (rIsx X.K) := by
  intro pins s σ H xs us Q I r h
  obtain ⟨x, c, u, b, rfl, k, hx, q⟩ := h
  rcases hx with ⟨a, C, fs, rfl, kx, e⟩ | ⟨t, ty, e⟩
  · obtain ⟨u1, u2, rfl, r1, r2⟩ := vals2 r
    cases (show u1 = Value.ref a from r1)
    have e2 := k.eq r2
    subst e2
    obtain ⟨oe, od, mA, J, _⟩ := kept_inst I kx
    obtain ⟨dd, _, _, c⟩ := kx
    exact PySem.W.kia_one (PySem.W.kitx_exc c.cl c.ga c.gg c.sb c.ha c.hn c.ht c.hm) I.kIn J e (fun z => nomatch z) fun tk => ⟨.bl b, H, I.tok tk, rfl, q⟩
  · exact call_isi pins s σ H _ us Q I r ⟨x, c, t, u, b, rfl, k, ty, e, q⟩
/-- x.n, x a kept exception -/
def tXk (K : PySem.W.Frag) (n : Str) (te : TE) : TE := fun σ H Q => te σ H fun x H1 => ∃ (a C : Addr) (fs : List (Str × V)) (v : V), x = .ref a ∧ Kept K H1 a C fs ∧ PySem.W.findIn K (.ref C) n = some none ∧ fs.lookup n = some v ∧ Q v H1
theorem pe_xk {X : Cx} {e : Expr} {te : TE} {pos : Pos} {n : Str} (he : PE X e te) (hb : attributeBase e n X.env (eval e X.env) = eval e X.env := by rfl) : PE X (.Attribute e n pos) (tXk X.K n te) := by
  refine ⟨fun pins s σ H Q I h => attr_of hb (thn (he.run pins s σ H _ I h) fun u s1 ⟨x, H1, I1, rx, a, C, fs, v, ex, k, no, l, q⟩ => ?_)⟩
  subst ex
  obtain rfl : u = Value.ref a := rx
  obtain ⟨oe, od, mA, J, hl, hr⟩ := kept_inst I1 k
  obtain ⟨dd, _, _, c⟩ := k
  obtain ⟨w, hw, rw'⟩ := RelO.some_of (v := v) (o := mA n) (by rw [← l]; exact hr n)
  exact HandSPX.exc_get I1.kIn J c.ga c.gg c.sb (PySem.W.findObj_own c.hd no rfl (by rw [hl, hw])) (handed_of rw') ⟨v, H1, I1.tok _, rw', q⟩
end G
set_option Elab.async false
set_option maxRecDepth 100000
set_option maxHeartbeats 8000000
/-! laws whose defs make lambdas: the tables of their code objects are told from the start -/
namespace G
open PySem PySem.Spec PyProof.Rows L2
open LamX (TabB TabS Tabs CodeO)
/-- an exception in the air: the slots are as many as the names -/
theorem takes_len {X : Cx} {W : WX} (t : Takes X W) : Takes X (fun cls d σ H => σ.length = X.N.length → W cls d σ H) := fun u s' ⟨a, B, sI, pins, σ, H, cls, d, e, I, nb, up, sky, na, os, ag, w⟩ =>
  t u s' ⟨a, B, sI, pins, σ, H, cls, d, e, I, nb, up, sky, na, os, ag, w I.len⟩
/-- what is tracked ahead of the law: the script, the tables -/
def scrT (K : PySem.W.Frag) (a : Addr) (vs : List Value) (ns : List Int) (cs : List (Addr × Addr)) : Hp := fun b => if b ∈ cs.map (·.2) then some (.tbl #[]) else scr K a vs ns b
section
variable {P : Program} {w : World} {K : PySem.W.Frag} {mg mb : Str → Option Value} {k : Nat} {fa a : Addr} {fd : FuncData} {x : Str} {sp : Sp} {s₁ : Shared} {vs : List Value} {ns : List Int} {cs : List (Addr × Addr)}
theorem law_runsT (KX : K.In s₁.heap) (hns : s₁.heap.Ns mainGlobals mg) (hb : s₁.heap.Ns builtinsNs mb) (hbb : ∀ x : Str, x ≠ "__name__" → mb x = bootBuiltins x) (hlim : s₁.heap.NoLimit) (hg : s₁.gens = #[])
    (hT : ∀ p ∈ cs, s₁.heap.get? p.2 = some { cls := .none, data := .fields #[] }) (nT : ∀ p ∈ cs, K.lookup p.2 = none) (C : ∀ p ∈ cs, PySem.W.CodeHd s₁.heap p.1 p.2)
    (hbm : ∃ (bm : Addr) (ob : Obj), mg "__builtins__" = some (.ref bm) ∧ bm ≠ builtinsNs ∧ s₁.heap.get? bm = some ob ∧ ob.cls = .type "module" ∧ ob.dict = some builtinsNs ∧ ob.data = .plain)
    (ha : s₁.heap.get? a = some { cls := .type "list", data := .seq vs.toArray }) (hi : IntsAre vs ns) (hl : ns.length ≤ sizeLine) (hr : Room k callerA)
    (F : ∀ base : Heap, K.In base → base.Ns mainGlobals mg → (∀ p ∈ cs, TabB base mg p.1 p.2) → FnG P w K mg base k fa fd [x] sp) (hbind : ∀ (s : Shared) (u : Value), BindsTo s fd ⟨[u], []⟩ [(x, u)])
    (hsp : ∀ H : Hp, (∀ p ∈ cs, H p.2 = some (.tbl #[])) → SqL K H a (ns.map V.int) → sp [.ref a] H (fun v _ => v = .bl true) fun _ _ _ => False) :
    codeAny (model P w) callerA (.call (.ref fa) ⟨[.ref a], []⟩) (fun r s' => r = .ok (.ret (.bool true)) ∧ OldK s₁.heap s'.heap ∧ s'.os = s₁.os ∧ AllBare s'.gens) s₁ := by
  have rv := vals_ints hi
  have isT : ∀ b : Addr, b ∈ cs.map (·.2) → s₁.heap.get? b = some { cls := .none, data := .fields #[] } := fun b hb => (List.mem_map.mp hb).elim fun p q => q.2 ▸ hT p q.1
  have aT : a ∉ cs.map (·.2) := fun z => by
    have q := ha.symm.trans (isT a z)
    cases q
  have tell : ∀ b, scrT K a vs ns cs b = none ∨ (b = a ∧ K.lookup a = none ∧ scrT K a vs ns cs b = some (.frz { cls := .type "list", data := .seq vs.toArray } (.lst (ns.map V.int)))) ∨ (b ∈ cs.map (·.2) ∧ scrT K a vs ns cs b = some (.tbl #[])) := fun b => by
    by_cases hb : b ∈ cs.map (·.2)
    · exact .inr (.inr ⟨hb, if_pos hb⟩)
    · rcases scr_or K a vs ns b with q | ⟨e1, e2, e3⟩
      · exact .inl ((if_neg hb).trans q)
      · exact .inr (.inl ⟨e1, e2, (if_neg hb).trans e3⟩)
  have sees : SqL K (scrT K a vs ns cs) a (ns.map V.int) := by
    cases hk : K.lookup a with
    | none => exact .inl (.inr ⟨_, (if_neg aT).trans (if_pos ⟨rfl, hk⟩)⟩)
    | some o =>
      have e := ha.symm.trans (KX a o hk)
      cases e
      exact .inr ⟨_, vs.toArray, _, hk, rfl, rfl, rfl, by rw [List.size_toArray, hi.length]; exact hl, by simpa using rv⟩
  have okH : HOk P w (scrT K a vs ns cs) s₁.heap := fun b u z => by
    rcases tell b with q | ⟨rfl, _, q⟩ | ⟨hb, q⟩
    · cases q.symm.trans z
    · cases q.symm.trans z
      exact ⟨ha, by rw [List.length_map]; exact hl, vs, _, rv, ha⟩
    · cases q.symm.trans z
      exact isT b hb
  -- what is neither the script nor a table is in the base
  have base_of : ∀ {b : Addr} {o : Obj}, s₁.heap.get? b = some o → (∀ us n, o.data ≠ .seq us n) → o.data ≠ .fields #[] → (hidT s₁.heap (scrT K a vs ns cs)).get? b = some o := fun {b o} e h1 h2 => hidT_get e (by
    rcases tell b with q | ⟨rfl, _, _⟩ | ⟨hb, _⟩
    · exact q
    · cases ha.symm.trans e
      exact (h1 _ _ rfl).elim
    · cases (isT b hb).symm.trans e
      exact (h2 rfl).elim)
  have low : ∀ {b : Addr} {m : Str → Option Value}, s₁.heap.Ns b m → (hidT s₁.heap (scrT K a vs ns cs)).Ns b m := by
    rintro b m ⟨o, es, ep, e, d, r⟩
    exact ⟨o, es, ep, base_of e (fun us n z => by rw [d] at z; cases z) (fun z => by rw [d] at z; cases z), d, r⟩
  have lowK : K.In (hidT s₁.heap (scrT K a vs ns cs)) := fun b o e => hidT_get (KX b o e) (by
    rcases tell b with q | ⟨rfl, z, _⟩ | ⟨hb, _⟩
    · exact q
    · cases z.symm.trans e
    · obtain ⟨p, hp, rfl⟩ := List.mem_map.mp hb
      cases (nT p hp).symm.trans e)
  have TB : ∀ p ∈ cs, TabB (hidT s₁.heap (scrT K a vs ns cs)) mg p.1 p.2 := fun p hp => by
    refine ⟨?_, ?_, fun z => ?_⟩
    · obtain ⟨o, us, file, tf, flags, tg, inF, text, tt, e1, r1, r2, r3, r4⟩ := C p hp
      exact ⟨o, us, file, tf, flags, tg, inF, text, tt, base_of e1 (fun us n z => by rw [r2] at z; cases z) (fun z => by rw [r2] at z; cases z; simp at r3), r1, r2, r3, r4⟩
    · obtain ⟨bm, ob, b1, b2, b3, b4, b5, b6⟩ := hbm
      refine ⟨bm, ob, b1, b2, fun q => ?_, fun q => ?_, base_of b3 (fun us n z => by rw [b6] at z; cases z) (fun z => by rw [b6] at z; cases z), b4, b5, b6⟩
      · obtain ⟨o, es, ep, e, hd, _⟩ := hns
        rw [q, e] at b3
        cases b3
        rw [hd] at b6
        cases b6
      · rw [q, hT p hp] at b3
        cases b3
        cases b6
    · obtain ⟨o, es, ep, e, hd, _⟩ := hns
      rw [z, hT p hp] at e
      cases e
      cases hd
  obtain ⟨mc, c1, c2⟩ := hlim
  have e0 : Env0 P w K mg (hidT s₁.heap (scrT K a vs ns cs)) callerA [] s₁ (scrT K a vs ns cs) :=
    { frames := rfl, mod := ⟨lowK, low hns, ⟨mb, low hb, hbb⟩, ⟨mc, low c1, c2⟩⟩, bs := fun b o e => of_hidT e, bsz := Nat.le_of_eq (hidT_size _ _), funs := trivial,
      frf := fun b z => (List.not_mem_nil (show b ∈ ([] : List Addr) from z)).elim, hok := okH, bare := .of_eq hg }
  have memT : ∀ p ∈ cs, scrT K a vs ns cs p.2 = some (.tbl #[]) := fun p hp => if_pos (List.mem_map.mpr ⟨p, hp, rfl⟩)
  refine codeAny_mono ((F _ lowK (low hns) TB).run callerA [] s₁ _ ⟨[.ref a], []⟩ [.ref a] [.ref a] _ _ rfl hr e0 (hbind s₁ (.ref a)) (.cons rfl .nil) (hsp _ memT sees)) fun r s' h => ?_
  match r, h with
  | .ok (.ret u), ⟨v, H', os, bare, un, hok', r', q⟩ =>
    subst q
    cases (show u = Value.bool true from r')
    have grown : ∀ p ∈ cs, ∃ more : Array Value, s'.heap.get? p.2 = some { cls := .none, data := .fields more } := fun p hp => (un.tbls p.2 #[] (memT p hp)).elim fun more z => ⟨_, hok' p.2 _ z⟩
    have kept : ∀ b o, b ∉ cs.map (·.2) → s₁.heap.get? b = some o → s'.heap.get? b = some o := fun b o nb e => by
      rcases tell b with z | ⟨rfl, _, z⟩ | ⟨hb, _⟩
      · exact un.keep b o e z (fun z => List.not_mem_nil (show b ∈ ([] : List Addr) from z)) List.not_mem_nil
      · cases ha.symm.trans e
        exact (hok' b _ (un.frzs b _ _ z)).1
      · exact (nb hb).elim
    refine ⟨rfl, ⟨fun b o e => ?_, fun b o e => ?_⟩, os, bare⟩
    · by_cases hb : b ∈ cs.map (·.2)
      · obtain ⟨p, hp, rfl⟩ := List.mem_map.mp hb
        obtain ⟨more, hm⟩ := grown p hp
        cases (hT p hp).symm.trans e
        exact .inr (.inl ⟨((C p hp).tab (hT p hp)).isCodeTable, rfl, #[], more, rfl, by rw [Array.empty_append]; exact hm⟩)
      · exact .inl (kept b o hb e)
    · by_cases hb : b ∈ cs.map (·.2)
      · obtain ⟨p, hp, rfl⟩ := List.mem_map.mp hb
        exact (grown p hp).elim fun more hm => ⟨_, hm⟩
      · exact ⟨o, kept b o hb e⟩
end
/-- the table of the def x is empty ahead of the law -/
def Fresh (K : PySem.W.Frag) (x : Str) (h : Heap) : Prop := ∀ c P : Addr, PySem.W.tabIn K x = some (c, P) → PySem.W.CodeHd h c P ∧ h.get? P = some { cls := .none, data := .fields #[] }
theorem walk_T {l : PySem.W.OpenLaw} {n k : Nat} {q : Program} {loose : List Str} {XP : (Str → Option Value) → Heap → Prop} {YP : World → Heap → Prop} {d : DefRec} {K : Params → PySem.W.Frag} {x : Str}
    (hn : l.most = some n) (hn2 : n ≤ sizeLine) (hdf : d.params.defaults = []) (hr : Room k callerA) (hY : ∀ (w : World) (h : Heap), YP w h → (K w.params).In h)
    (F : ∀ (w : World) (mg : Str → Option Value) (fa : Addr) (h : Heap), (K w.params).In h → h.Ns mainGlobals mg → mg d.name = some (.ref fa) → (∀ y, ((recsOf q).find? fun e => e.name == y).isSome = true → Fresh (K w.params) y h) →
      ∃ (fd : FuncData) (cs : List (Addr × Addr)) (sp : Sp), (∀ p ∈ cs, h.get? p.2 = some { cls := .none, data := .fields #[] }) ∧ (∀ p ∈ cs, (K w.params).lookup p.2 = none) ∧ (∀ p ∈ cs, PySem.W.CodeHd h p.1 p.2) ∧ (∀ (s : Shared) (u : Value), BindsTo s fd ⟨[u], []⟩ [(x, u)]) ∧
        (∀ (H : Hp) (a : Addr) (ns : List Int), ns.length ≤ n → (∀ p ∈ cs, H p.2 = some (.tbl #[])) → SqL (K w.params) H a (ns.map V.int) → sp [.ref a] H (fun v _ => v = .bl true) fun _ _ _ => False) ∧
        ∀ base : Heap, (K w.params).In base → base.Ns mainGlobals mg → (∀ p ∈ cs, TabB base mg p.1 p.2) → FnG l.prog w (K w.params) mg base k fa fd [x] sp) :
    PySem.W.WalkO q loose XP YP l.row.toRowW d [] (fun f vs => PySem.call f vs) := by
  refine Att.attach_call hn hdf fun w s₀ s₁ mg mb fa o pm cd doc a vs ns G Y ho hd hcd hmg hobj hints hlen hg => ?_
  obtain ⟨fd, cs, sp, hT, nT, C, hb, hsp, hF⟩ := F w mg fa _ (hY w _ Y) G.T.g hmg fun y hy c P ht => (Option.isSome_iff_exists.mp hy).elim fun dd hr => PySem.W.tab_of G.T (hY w _ Y) hr ht
  exact law_runsT (hY w _ Y) G.T.g G.T.b G.T.builtins G.T.nolimit hg hT nT C G.T.bmain hobj hints (Nat.le_trans hlen hn2) hr hF hb fun H hH hS => hsp H a ns hlen hH hS
end G
set_option Elab.async false
set_option maxRecDepth 100000
set_option maxHeartbeats 4000000
/-! an own exception made of no argument -/
namespace L2
open PySem PySem.Spec PyProof.Rows
section
variable {X : Cx} {p pos : Pos}
theorem pmk_oex0 {CX : CXT} {x : Str} {C fI : Addr} {k : Nat} {fd : FuncData} {ps : List Str} {sp : Sp} {ds : List Value} {dvs : List V} (T : OexC X.K C) (iC : PySem.W.findIn X.K (.ref C) "__init__" = some (some (.ref fI))) (tI : PySem.W.typeIn X.K (.ref fI) = some (.type "function"))
    (F1 : FnOk X.prog X.w X.K X.mg X.base CX k fI fd ps sp) (hr : Room (k + 1) X.A) (hb : Binds X.K fd ps ds) (hd : Vals dvs ds) (hx : Passes CX X (fun _ _ _ => False)) (hg : Gl X x) (hm : X.mg x = some (.ref C))
    (hdb : (x == ("__debug__" : Str)) = false := by decide) :
    PMk X (.Call (.Name x p) [] [] pos) (tMkO C sp dvs tNil) := by
  intro pins s σ H Q I h
  obtain ⟨nm, q, N, bs, bm, sn, sub, ab, col, dd, k0, k1, k2, k3, k5, hC, hbm⟩ := T.cls
  refine wpAny_Call_Name_kw (ld_glob I hg hm ?_ hdb)
  refine PySem.W.callWith_K0 I.kIn T.kC ?_
  show wpAny _ _ (call (.ref C) []) _ _ _
  have q1 := h.2
  obtain ⟨hp, g, dr, tk, os⟩ := s
  have hsz : hp.objs.size ≤ hp.objs.size + 1 := Nat.le_succ _
  have hn : H (hp.objs.size + 1) = none := I.hok.fresh hsz
  have hq := q1 (hp.objs.size + 1) hn
  have kk : ∀ b o, hp.get? b = some o → ((hp.push (PySem.W.kdv_tup [])).push (PySem.HandSPX.excO C hp.objs.size)).get? b = some o := fun b o e => Heap.get?_push_of_some _ (Heap.get?_push_of_some _ e)
  have hget : ((hp.push (PySem.W.kdv_tup [])).push (PySem.HandSPX.excO C hp.objs.size)).get? (hp.objs.size + 1) = some (PySem.HandSPX.excO C hp.objs.size) := by heap_get
  have I2 : Inv X pins σ (upd H (hp.objs.size + 1) (exo (hp.objs.size + 1) C none)) ⟨(hp.push (PySem.W.kdv_tup [])).push (PySem.HandSPX.excO C hp.objs.size), g, dr, tk, os⟩ :=
    I.laid (t' := tk) (a := hp.objs.size + 1) (o := exo (hp.objs.size + 1) C none) (h' := (hp.push (PySem.W.kdv_tup [])).push (PySem.HandSPX.excO C hp.objs.size)) kk hsz (exo_ok hget)
  have r2 : Vals (V.ref (hp.objs.size + 1) :: ([] ++ dvs)) ([Value.ref (hp.objs.size + 1)] ++ ds) := by
    rw [show [Value.ref (hp.objs.size + 1)] ++ ds = Value.ref (hp.objs.size + 1) :: ds from rfl]
    exact .cons rfl hd
  have hl : ([Value.ref (hp.objs.size + 1)] ++ ds).length = ps.length := by
    have e := r2.length
    rw [F1.len _ _ _ _ hq] at e
    exact e.symm
  refine wpAny_call (PySem.HandSPX.call_own F.excBase_ValueError (fun Y => PySem.HandSPX.refsVE_contains Y bm hbm) (I.kIn _ _ hC) (PySem.W.looks_findIn I.kIn iC) (fun self => PySem.W.bind_fn I.kIn self tI) (Nat.zero_le _)
    (codeAny_mono (F1.run _ X.stack _ _ ⟨[Value.ref (hp.objs.size + 1)], []⟩ ([Value.ref (hp.objs.size + 1)] ++ ds) _ _ (fun _ _ _ => False) (hr.make C [] []) (I2.env0.make C [] []) (hb _ [Value.ref (hp.objs.size + 1)] I2.kIn hl) r2 hq) fun r s' hq' => ?_))
  cases r with
  | error er => exact hx pins σ _ _ er s' I2 hq'
  | ok fl =>
    cases fl with
    | ret u =>
      obtain ⟨v, H2, os2, bare2, un2, hok2, rv, ev, d, fs, ea, ed, hd1, q2⟩ := hq'
      subst ev
      obtain ⟨h2, g2, d2, t2, os'⟩ := s'
      exact ⟨rv, mk_end (raises_own T.exC T.tyC) I hsz kk un2 hok2 os2 bare2 ea ed hd1 q2⟩
    | next => exact False.elim hq'
    | brk => exact False.elim hq'
    | cont => exact False.elim hq'
end
end L2
namespace G
open PySem PySem.Spec PyProof.Rows L2
/-- what __init__(self) leaves: the field, None -/
def spInit0 : PySem.W.Frag → Sp := fun K vs H Q _ => ∃ (a C : Addr), vs = [.ref a] ∧ OexC K C ∧ PySem.W.findIn K (.ref C) "value" = some none ∧ H a = some (exo a C none) ∧
  ∀ dx, H dx = none → dx ≠ a → Q .non (upd (upd H dx (exd dx [("value", .non)])) a (exo a C (some dx)))
theorem mkO_of0 {K : PySem.W.Frag} {C : Addr} {E : XK} {H1 : Hp} (T : OexC K C) (hno : PySem.W.findIn K (.ref C) "value" = some none) (h : Flies C .non E H1) : ([] : List V).length ≤ 1000 ∧ ∀ a, H1 a = none →
    spInit0 K (.ref a :: (([] : List V) ++ [])) (upd H1 a (exo a C none)) (fun u H2 => u = .non ∧ ∃ (d : Addr) (fs : List (Str × V)), H2 a = some (exo a C (some d)) ∧ H2 d = some (exd d fs) ∧ H1 d = none ∧ E (.ref C) (some d) (upd (del H2 a) d (.xd fs))) (fun _ _ _ => False) := by
  refine ⟨Nat.zero_le _, fun a ha => ⟨a, C, rfl, T, hno, upd_same, fun dx hdx ne => ?_⟩⟩
  rw [upd_ne ne] at hdx
  refine ⟨rfl, dx, [("value", .non)], upd_same, (upd_ne ne).trans upd_same, hdx, h dx _ (fun b u e => ?_) hdx upd_same⟩
  have n1 := ne_of_none e hdx
  have n2 := ne_of_none e ha
  rw [upd_ne n1, del_ne n2, upd_ne n2, upd_ne n1, upd_ne n2]
  exact e
end G
set_option Elab.async false
set_option maxRecDepth 100000
set_option maxHeartbeats 4000000
/-! any of a list of ints -/
namespace G
open PySem PySem.Spec PyProof.Rows L2
theorem ints_at : ∀ {us : List Value} {ns : List Int}, IntsAre us ns → ∀ {i : Nat} {v : Value}, us[i]? = some v → ∃ n t, ns[i]? = some n ∧ v = .int n t
  | _, _, .nil, i, v, h => by simp at h
  | _, _, .cons n t r, 0, v, h => by
    simp at h
    exact ⟨n, t, by simp, h.symm⟩
  | _, _, .cons n t r, i + 1, v, h => by
    simp only [List.getElem?_cons_succ] at h ⊢
    exact ints_at r h
theorem ints_len : ∀ {us : List Value} {ns : List Int}, IntsAre us ns → us.length = ns.length
  | _, _, .nil => rfl
  | _, _, .cons n t r => by rw [List.length_cons, List.length_cons, ints_len r]
theorem truth_ints {prog : Program} {w : World} {A : Around} {ns : List Int} {its : List Value} (e : IntsAre its ns) :
    TruthOf prog w A (fun i v => its.toArray[i]? = some v) (fun i => (ns.map fun n => n != 0).getD i false) := fun i v s Q E hv hq => by
  have hv' : its[i]? = some v := by simpa using hv
  obtain ⟨n, t, hn, rfl⟩ := ints_at e hv'
  have hg : (ns.map fun n => n != 0).getD i false = (n != 0) := by rw [List.getD_eq_getElem?_getD, List.getElem?_map, hn] <;> rfl
  have hq' : Q ((ns.map fun n => n != 0).getD i false) s := hq
  rw [hg] at hq'
  exact PySem.P.truthy_int hq'
section
variable {X : Cx}
def rAnyI (K : PySem.W.Frag) : List V → Hp → VK → Prop := fun vs H Q => ∃ (a : Addr) (ns : List Int), vs = [V.ref a] ∧ SqL K H a (ns.map V.int) ∧ Q (.bl (ns.any fun n => n != 0)) H
theorem cr_anyI (hc : X.calm = true) : CallR X (.builtin "any") (rAnyI X.K) := by
  intro pins s σ H vs us Q I r h
  obtain ⟨a, ns, rfl, hs, q⟩ := h
  obtain ⟨its, rv, hl, _⟩ := I.list hs
  rw [Vals.ref1 r]
  have hb := rv.ints
  refine call_any_walk (iter_any hl.isList fun s₂ e2 st hne => ?_)
  subst e2
  refine ⟨_, _, _, _, _, _, _, rfl, Walks.list (A := X.A.in1) (I.ok.hd hc) _ a hne its.toArray, st, truth_ints hb, fun h' tk hk => ?_⟩
  refine ⟨.bl _, H, I.kept fun b o eo => hk b o (fun hmem => ?_) (Heap.get?_push_of_some _ eo), ?_, q⟩
  · rcases List.mem_cons.mp hmem with e1 | hmem
    · exact absurd (e1 ▸ Heap.lt_size eo) (Nat.lt_irrefl _)
    · cases hmem
  · show Value.bool _ = Value.bool _
    have e := L2.any_range (ns.map fun n => n != 0)
    rw [List.length_map, List.any_map] at e
    rw [List.size_toArray, ints_len hb]
    refine congrArg Value.bool ?_
    first | exact e.symm | exact e
end
end G
set_option Elab.async false
set_option maxRecDepth 100000
set_option maxHeartbeats 4000000
/-! isinstance(x, (c1, c2, ..)), x a kept exception -/
namespace G
open PySem PySem.Spec PyProof.Rows L2
def rIsxT (K : PySem.W.Frag) : List V → Hp → VK → Prop := fun xs H Q => ∃ (a C tp : Addr) (fs : List (Str × V)) (cs : List V) (us : List Value) (b : Bool), xs = [.ref a, .ref tp] ∧ H tp = some (.tup cs) ∧ Paired ClsV cs us ∧ Kept K H a C fs ∧ PySem.W.kitAny K (.ref C) us = some b ∧ Q (.bl b) H
theorem call_isxT {X : Cx} : CallR X (.builtin "isinstance") (rIsxT X.K) := by
  intro pins s σ H xs us Q I r h
  obtain ⟨a, C, tp, fs, cs, ws, b, rfl, hT, k, kx, e, q⟩ := h
  obtain ⟨u1, u2, rfl, r1, r2⟩ := vals2 r
  cases (show u1 = Value.ref a from r1)
  cases (show u2 = Value.ref tp from r2)
  obtain ⟨oe, od, mA, J, _⟩ := kept_inst I kx
  obtain ⟨dd, _, _, c⟩ := kx
  obtain ⟨_, its, rv, o, h1, h2, n, h3⟩ := (show ObjOk X.prog X.w H s.heap tp (.tup cs) from I.hok tp _ hT)
  have e3 := ClsV.all k rv
  subst e3
  obtain ⟨oc, od2, dt, sl⟩ := o
  simp only at h2 h3
  subst h2 h3
  exact PySem.W.kia_tup (PySem.W.kitx_exc c.cl c.ga c.gg c.sb c.ha c.hn c.ht c.hm) I.kIn J h1 e (fun z => nomatch z) fun tk => ⟨.bl b, H, I.tok tk, rfl, q⟩
end G
set_option Elab.async false
set_option maxRecDepth 100000
set_option maxHeartbeats 4000000
namespace G
open PySem PySem.Spec PyProof.Rows L2
section
variable {X : Cx}
/-- xs != ys, two lists of the same texts -/
def rNeLS : R2 := fun x y H Q => ∃ (a e : Addr) (ss : List Str), x = .ref a ∧ y = .ref e ∧ H a = some (.lst (ss.map V.str)) ∧ H e = some (.lst (ss.map V.str)) ∧ Q (.bl false) H
theorem op_neLS (hu : X.A.units + 64 < cLine) : OpR X (compareOp .NotEq) rNeLS := by
  intro pins s σ H x y v u Q I rx ry h
  obtain ⟨a, e, ss, rfl, rfl, ha, he, q⟩ := h
  cases rx
  cases ry
  obtain ⟨i1, r1, p1, _⟩ := I.list (SqL.of ha)
  obtain ⟨i2, r2, p2, _⟩ := I.list (SqL.of he)
  have hlen : i1.length = i2.length := r1.length.symm.trans r2.length
  refine (SeqAt.RcNeAt.lists (e := fun _ => true) p1.isList p2.isList (by simpa using hlen) (by omega) fun j h1 h2 => ?_) _ _ _ _ ?_
  · have hj : j < ss.length := by
      have := r1.length
      rw [List.length_map] at this
      rw [List.size_toArray] at h1
      omega
    have hv : (ss.map V.str)[j]? = some (V.str ss[j]) := by rw [List.getElem?_map, List.getElem?_eq_getElem hj]; rfl
    obtain ⟨u1, e1, q1⟩ := r1.get hv
    obtain ⟨u2, e2, q2⟩ := r2.get hv
    have g1 : i1.toArray[j] = u1 := by
      rw [List.size_toArray] at h1
      rw [List.getElem?_eq_getElem h1] at e1
      simpa using e1
    have g2 : i2.toArray[j] = u2 := by
      rw [List.size_toArray] at h2
      rw [List.getElem?_eq_getElem h2] at e2
      simpa using e2
    rw [g1, g2]
    exact eqAt_same q1 q2 rfl
  · refine ⟨.bl false, H, I, ?_, q⟩
    show Value.bool _ = Value.bool _
    congr 1
    simp
end
end G
set_option Elab.async false
set_option maxRecDepth 100000
namespace X1
open PySem PySem.Spec PyProof.Rows L2
open GF (pc par pc_0 pc_eq par_lt)
/-- one bit of a bank -/
def bitOf (ms : List Int) (a : Int) (i : Nat) : Int := (par (a.toNat &&& ((ms.getD i 0).toNat)) : Int) * 2 ^ i
def bits (ms : List Int) (a : Int) : List Int := (List.range ms.length).map (bitOf ms a)
/-- the bank of an address -/
def bankOf (ms : List Int) (a : Int) : Int := (bits ms a).sum
theorem bits_length (ms : List Int) (a : Int) : (bits ms a).length = ms.length := by
  unfold bits
  rw [List.length_map, List.length_range]
theorem bits_next (ms : List Int) (a : Int) {i : Nat} (h : i < ms.length) : (bits ms a).take i ++ [bitOf ms a i] = (bits ms a).take (i + 1) := by
  have e : (bits ms a)[i]? = some (bitOf ms a i) := by
    unfold bits
    rw [List.getElem?_map, List.getElem?_range h]
    rfl
  rw [List.take_add_one, e]
  rfl
theorem sum_lt (ms : List Int) (a : Int) : ∀ i, i ≤ ms.length → 0 ≤ ((bits ms a).take i).sum ∧ ((bits ms a).take i).sum < 2 ^ i
  | 0, _ => ⟨Int.le_refl 0, by show (0 : Int) < 1; decide⟩
  | i + 1, h => by
    obtain ⟨h1, h2⟩ := sum_lt ms a i (by omega)
    rw [← bits_next ms a (by omega), List.sum_append]
    have hp := par_lt (a.toNat &&& ((ms.getD i 0).toNat))
    have h3 : 0 ≤ bitOf ms a i ∧ bitOf ms a i ≤ 2 ^ i := by
      have hh : (0 : Int) ≤ 2 ^ i := two_pow_nn i
      unfold bitOf
      rcases (by omega : par (a.toNat &&& ((ms.getD i 0).toNat)) = 0 ∨ par (a.toNat &&& ((ms.getD i 0).toNat)) = 1) with e | e
      · rw [e]
        simp [hh]
      · rw [e]
        simp [hh]
    have e2 : (2 : Int) ^ (i + 1) = 2 ^ i + 2 ^ i := by
      rw [Int.pow_succ]
      omega
    rw [e2]
    simp only [List.sum_cons, List.sum_nil]
    omega
theorem bank_lt (ms : List Int) (a : Int) : 0 ≤ bankOf ms a ∧ bankOf ms a < 2 ^ ms.length := by
  have h := sum_lt ms a ms.length (Nat.le_refl _)
  rw [List.take_of_length_le (by rw [bits_length]; exact Nat.le_refl _)] at h
  exact h
end X1
set_option Elab.async false
set_option maxRecDepth 100000
set_option maxHeartbeats 4000000
namespace X1
open PySem L2
open GF (pc par pc_0 pc_eq par_lt)
def top (i : Nat) : Stmt := PySem.Challenge.pw_xorbanks_k29_maps_refused.main.body.getD i (.Pass ⟨0, 0, 0, 0⟩)
abbrev sIsInt : Stmt := top 11
abbrev sIsAddr : Stmt := top 13
abbrev sAreAddrs : Stmt := top 14
abbrev sAreMasks : Stmt := top 15
abbrev sCkWidth : Stmt := top 16
abbrev sCkMap : Stmt := top 17
abbrev sCkAddr : Stmt := top 18
abbrev sParity : Stmt := top 20
abbrev sRem : Stmt := top 21
abbrev sRed : Stmt := top 22
abbrev sHb : Stmt := top 24
abbrev sPowers : Stmt := top 25
abbrev sOrth : Stmt := top 26
abbrev sBankOf : Stmt := top 28
abbrev sInd : Stmt := top 29
abbrev sRec : Stmt := top 30
abbrev sBank : Stmt := top 31
abbrev sKernel : Stmt := top 32
abbrev sBankCount : Stmt := top 33
abbrev sJoined : Stmt := top 34
abbrev sRecg : Stmt := top 35
abbrev sComp : Stmt := top 36
abbrev sInv : Stmt := top 37
abbrev sBox : Stmt := top 39
abbrev sTake : Stmt := top 40
abbrev sOf : Stmt := top 41
abbrev sLot : Stmt := top 42
abbrev sPlan : Stmt := top 43
abbrev sAny : Stmt := top 44
abbrev sBent : Stmt := top 45
abbrev sLInt : Stmt := top 46
abbrev sLSpot : Stmt := top 47
abbrev sLPlan : Stmt := top 48
abbrev sLSize : Stmt := top 49
abbrev sTold : Stmt := top 50
abbrev sFour : Stmt := top 51
abbrev sDue : Stmt := top 52
abbrev sRight : Stmt := top 53
abbrev sLaw : Stmt := top 54
/-- a def of the module, as it stands behind the top -/
structure At (K : PySem.W.Frag) (mg : Str → Option Value) (x : Str) (st : Stmt) (ps : List Str) (f : Addr) (fd : FuncData) : Prop where
  fn : Fun K x x st f fd
  mg : mg x = some (.ref f)
  bi : Binds K fd ps []
/-- what else the defs ask of the module -/
abbrev sIsWidth : Stmt := top 12
abbrev sIndepN : Stmt := top 23
structure Txt (K : PySem.W.Frag) (mg : Str → Option Value) : Prop where
  isIndep : ∃ f fd, At K mg "independent" sIndepN ["known", "vectors"] f fd
  isWidth : ∃ f fd, At K mg "is_width" sIsWidth ["value"] f fd
  isinstance : mg "isinstance" = none
  int : mg "int" = none
  bool : mg "bool" = none
  tuple : mg "tuple" = none
  len : mg "len" = none
  all : mg "all" = none
  any : mg "any" = none
  sum : mg "sum" = none
  abs : mg "abs" = none
  range : mg "range" = none
  repr : mg "repr" = none
  sorted : mg "sorted" = none
  max : mg "max" = none
  min : mg "min" = none
  list : mg "list" = none
  str : mg "str" = none
  enum : mg "enumerate" = none
  mWidth : ∃ t, mg "MOST_WIDTH" = some (.int 16 t)
  mMasks : ∃ t, mg "MOST_MASKS" = some (.int 16 t)
theorem iteFb {b : Bool} {A B : Prop} (h : b = false) (k : B) : if b = true then A else B := by
  subst h
  exact iteF k
theorem iteTb {b : Bool} {A B : Prop} (h : b = true) (k : A) : if b = true then A else B := by
  subst h
  exact iteT k
theorem yes {σ : St} {H : Hp} {Q : Bool → Hp → Prop} (h : Q true H) : tYes σ H Q := h
theorem qv {Q : VK} {v v' : V} {H : Hp} (e : v = v') (k : Q v' H) : Q v H := e ▸ k
def InW (wd : Int) (ns : List Int) : Prop := ∀ x ∈ ns, 0 ≤ x ∧ x < 2 ^ wd.toNat
section
variable {P : Program} {w : World} {K : PySem.W.Frag} {mg : Str → Option Value} {base : Heap}
end
end X1
set_option Elab.async false
set_option maxRecDepth 100000
set_option maxHeartbeats 4000000
namespace X1
open PySem L2
open GF (pc par pc_0 pc_eq par_lt)
/-- the law's own stream of draws: three ints in a list -/
def BoxO (n : Int) (o : HO) : Prop := ∃ x0 x1 x2 : Int, o = .lst [.int x0, .int x1, .int x2] ∧ 0 ≤ x0 ∧ x0 < 2 ^ 1000 ∧ 0 ≤ x1 ∧ x1 < 2 ^ 62 ∧ 0 ≤ x2 ∧ x2 ≤ n
theorem BoxO.mono {n m : Int} {o : HO} (h : n ≤ m) (b : BoxO n o) : BoxO m o := by
  obtain ⟨x0, x1, x2, e, h0, h1, h2, h3, h4, h5⟩ := b
  exact ⟨x0, x1, x2, e, h0, h1, h2, h3, h4, by omega⟩
theorem BoxO.lst {n : Int} {o : HO} (b : BoxO n o) : ∃ xs, o = .lst xs := by
  obtain ⟨x0, x1, x2, e, _⟩ := b
  exact ⟨_, e⟩
/-- all but b as it was -/
def Sam (b : Addr) (H H' : Hp) : Prop := ∀ c o, c ≠ b → H c = some o → H' c = some o
theorem Sam.refl (b : Addr) (H : Hp) : Sam b H H := fun _ _ _ e => e
theorem Sam.trans {b : Addr} {H H1 H2 : Hp} (x : Sam b H H1) (y : Sam b H1 H2) : Sam b H H2 := fun c o n e => y c o n (x c o n e)
theorem Sam.upd {b : Addr} {o : HO} {H : Hp} : Sam b H (upd H b o) := fun c u n e => by rw [upd_ne n]; exact e
theorem Sam.new {b p : Addr} {o : HO} {H H' : Hp} (x : Sam b H H') (hp : H' p = none) : Sam b H (L2.upd H' p o) := fun c u n e => by
  rw [upd_ne (ne_of_none (x c u n e) hp)]
  exact x c u n e
theorem b01 (b : Bool) : -(2 ^ 64) < (if b = true then (1 : Int) else 0) ∧ (if b = true then (1 : Int) else 0) < 2 ^ 64 := by cases b <;> decide
theorem mulb {x M : Int} (b : Bool) (h0 : 0 ≤ x) (h : x < M) : 0 ≤ x * (if b = true then (1 : Int) else 0) ∧ x * (if b = true then (1 : Int) else 0) < M := by
  cases b
  · rw [if_neg (by decide), Int.mul_zero]
    omega
  · rw [if_pos rfl, Int.mul_one]
    exact ⟨h0, h⟩
theorem big300 : (0 : Int) < ((10 : Int) ^ (60 : Int).toNat) ^ (5 : Int).toNat ∧ ((10 : Int) ^ (60 : Int).toNat) ^ (5 : Int).toNat < 2 ^ 1000 := by decide +kernel
theorem mulB (x : Int) (b : Bool) : 0 ≤ x % (((10 : Int) ^ (60 : Int).toNat) ^ (5 : Int).toNat) * (if b = true then (1 : Int) else 0) ∧ x % (((10 : Int) ^ (60 : Int).toNat) ^ (5 : Int).toNat) * (if b = true then (1 : Int) else 0) < 2 ^ 1000 :=
  mulb b (Int.emod_nonneg x (Int.ne_of_gt big300.1)) (Int.lt_trans (Int.emod_lt_of_pos x big300.1) big300.2)
section
variable {P : Program} {w : World} {K : PySem.W.Frag} {mg : Str → Option Value} {base : Heap}
/-! ### _law_box -/
def spBox (K : PySem.W.Frag) : Sp := fun vs H Q _ => ∃ (a : Addr) (ns : List Int) (k : Nat), vs = [.ref a, .int (k : Int)] ∧ SqL K H a (ns.map V.int) ∧ k ≤ 1000 ∧ ∀ b o, H b = none → BoxO 0 o → Q (.ref b) (upd H b o)
theorem scBox : FnScope ["_law_script", "_law_k", "_law_cell", "_law_own"] ["_law_script", "_law_k"] (defScope sBox) := ⟨rfl, rfl, rfl, by decide +kernel, rfl, by decide +kernel, by decide +kernel⟩
theorem ok_box {f : Addr} {fd : FuncData} (A0 : At K mg "_law_box" sBox ["_law_script", "_law_k"] f fd) (T : Txt K mg) : FnOk P w K mg base CX0 1 f fd ["_law_script", "_law_k"] (spBox K) := by
  refine A0.fn.ok scBox (fun vs H Q E h => ?_) (fun cdv A outer s H vs Q E hr h => ?_)
  · obtain ⟨a, ns, k, rfl, _⟩ := h
    rfl
  · obtain ⟨a, ns, j, rfl, hS, hj, k⟩ := h
    refine ⟨_, pss_cons (ps_set (i := 2) scBox.nd rfl (Or.inl rfl) (pe_ifExp (pt_cmpR op_lt (pv 1) (pe_callB call_len_seq (by rfl) T.len PySem.boot_len (pa_cons (pv 0) pa_nil)) (nomark _))
        (pe_ix ix_list (pv 0) (pv 1) (fun _ _ => rfl)) (pe_op op_add (pe_op op_mul pe_int (pv 1)) pe_int)))
      (pss_cons (ps_set (i := 3) scBox.nd rfl (Or.inl rfl) (pe_op op_mul (pe_op op_mod (pe_callB call_abs (by rfl) T.abs (by decide +kernel) (pa_cons (pv 2) pa_nil)) (pe_op G.op_powW (pe_op op_pow pe_int pe_int) pe_int))
        (pe_callTy call_int1 (by rfl) T.int (by decide +kernel) (pa_cons (pe_cmpR op_ge (pe_callB call_abs (by rfl) T.abs (by decide +kernel) (pa_cons (pv 2) pa_nil)) (pe_op op_pow pe_int pe_int) (nomark _)) pa_nil))))
      (pss_one (ps_ret (pe_lst (pa_cons (pv 3) (pa_cons (pe_op op_mod (pe_op op_add (pe_op op_add (pe_op op_mul (pe_op op_mod (pv 2) pe_int) pe_int) (pe_op op_mul (pe_op op_mul pe_int (pv 1)) (pv 1))) pe_int) pe_int) (pa_cons pe_int pa_nil))))))), ?_⟩
    refine ⟨_, rfl, _, rfl, a, _, rfl, .inl hS, _, _, rfl, rfl, _, rfl, ?_⟩
    refine ite2 (fun hlt => ?g1) (fun hlt => ?g2)
    case' g1 =>
      obtain ⟨c, hc⟩ : ∃ c, ns[j]? = some c := ⟨_, List.getElem?_eq_getElem (by simpa using hlt)⟩
      refine ⟨_, rfl, _, rfl, a, _, _, _, rfl, rfl, hS, atI_nat (v := V.int c) (by rw [List.getElem?_map, hc]; rfl), ?_⟩
    case' g2 => refine ⟨_, rfl, _, _, rfl, rfl, .inl ⟨by decide, by decide⟩, _, _, rfl, rfl, ?_⟩
    all_goals
      refine ⟨_, rfl, _, rfl, _, _, rfl, rfl, ⟨by decide, by decide, by decide⟩, _, _, rfl, rfl, ⟨by decide, by decide +kernel⟩, _, _, rfl, rfl, big300.1, ?_⟩
      refine ⟨_, rfl, _, rfl, _, _, rfl, rfl, ⟨by decide, by decide, by decide⟩, _, _, rfl, rfl, .inr ⟨_, rfl, _, _, rfl, rfl, .inr (b01 _), ?_⟩⟩
      refine ⟨_, rfl, _, rfl, _, _, rfl, rfl, (by show (0 : Int) < 2305843009213693951; decide), _, _, rfl, rfl, .inr ⟨by decide, by decide⟩, _, rfl, _, _, rfl, rfl, .inl ⟨by decide, by decide⟩, _, rfl, _, _, rfl, rfl, .inr ⟨by omega, by omega⟩, _, _, rfl, rfl, _, _, rfl, rfl, _, _, rfl, rfl, (by show (0 : Int) < 2305843009213693921; decide), (by show 3 ≤ sizeLine; decide), fun b hb => ?_⟩
      exact k b _ hb ⟨_, _, _, rfl, (mulB _ _).1, (mulB _ _).2, Int.emod_nonneg _ (by decide), Int.lt_trans (Int.emod_lt_of_pos _ (by decide)) (by decide), Int.le_refl 0, Int.le_refl 0⟩
/-! ### _law_take -/
def spTake : Sp := fun vs H Q _ => ∃ (b : Addr) (n many : Int) (o : HO), vs = [.ref b, .int many] ∧ H b = some o ∧ BoxO n o ∧ n ≤ 1000000 ∧ 0 < many ∧ many < 2 ^ 1000 ∧
  ∀ v o', 0 ≤ v → v < many → BoxO (n + 1) o' → Q (.int v) (upd H b o')
theorem scTake : FnScope ["_law_box_here", "_law_many", "_law_digit", "_law_mixed"] ["_law_box_here", "_law_many"] (defScope sTake) := ⟨rfl, rfl, rfl, by decide +kernel, rfl, by decide +kernel, by decide +kernel⟩
theorem ok_take {f : Addr} {fd : FuncData} (A0 : At K mg "_law_take" sTake ["_law_box_here", "_law_many"] f fd) : FnOk P w K mg base CX0 1 f fd ["_law_box_here", "_law_many"] spTake := by
  refine A0.fn.ok scTake (fun vs H Q E h => ?_) (fun cdv A outer s H vs Q E hr h => ?_)
  · obtain ⟨b, n, m, o, rfl, _⟩ := h
    rfl
  · obtain ⟨b, n, m, o, rfl, hb, ⟨x0, x1, x2, rfl, h0, h1, h2, h3, h4, h5⟩, hn, m0, m1, k⟩ := h
    refine ⟨_, pss_cons (ps_if (pt_cmpR op_gt (pe_ix ix_list (pv 0) pe_int (fun _ _ => rfl)) pe_int (nomark _))
        (pss_cons (ps_set (i := 2) scTake.nd rfl (Or.inl rfl) (pe_op op_mod (pe_ix ix_list (pv 0) pe_int (fun _ _ => rfl)) (pv 1)))
        (pss_cons (ps_asg (pe_op op_fdivW (pe_ix ix_list (pv 0) pe_int (fun _ _ => rfl)) (pv 1)) (pg_sub (pv 0) pe_int set_list)) (pss_one (ps_ret (pv 2))))) pss_nil)
      (pss_cons (ps_asg (pe_op op_add (pe_ix ix_list (pv 0) pe_int (fun _ _ => rfl)) pe_int) (pg_sub (pv 0) pe_int set_list))
      (pss_cons (ps_set (i := 3) scTake.nd rfl (Or.inl rfl) (pe_op op_mod (pe_op op_mul (pe_op op_add (pe_op op_add (pe_ix ix_list (pv 0) pe_int (fun _ _ => rfl))
          (pe_op op_mul (pe_op op_mul pe_int (pe_ix ix_list (pv 0) pe_int (fun _ _ => rfl))) (pe_ix ix_list (pv 0) pe_int (fun _ _ => rfl)))) pe_int) pe_int) pe_int))
      (pss_cons (ps_set (i := 3) scTake.nd rfl (Or.inl rfl) (pe_op op_mod (pe_op op_mul (pv 3) (pe_op op_add (pe_op op_mod (pv 3) pe_int) (pe_op op_mul pe_int (pe_ix ix_list (pv 0) pe_int (fun _ _ => rfl))))) pe_int))
      (pss_one (ps_ret (pe_op op_mod (pe_op op_add (pe_op op_fdiv (pv 3) pe_int) (pe_op op_fdiv (pv 3) pe_int)) (pv 1))))))), ?_⟩
    refine ⟨_, rfl, b, _, 0, _, rfl, rfl, SqL.of hb, rfl, _, _, rfl, rfl, _, rfl, ?_⟩
    refine ite2 (fun hp => ?_) (fun hp => ?_)
    · refine ⟨_, rfl, b, _, 0, _, rfl, rfl, SqL.of hb, rfl, _, rfl, _, _, rfl, rfl, m0, ?_⟩
      refine ⟨_, rfl, b, _, 0, _, rfl, rfl, SqL.of hb, rfl, _, rfl, _, _, rfl, rfl, wide_div m0 (b := 1000) (by omega) (by decide) (by decide), ?_⟩
      refine ⟨_, rfl, b, _, 0, 0, rfl, rfl, hb, rfl, ?_⟩
      have hx : 0 ≤ x0 / m := Int.ediv_nonneg h0 (by omega)
      have hy : x0 / m ≤ x0 := Int.ediv_le_self m h0
      exact ⟨_, rfl, k _ _ (Int.emod_nonneg _ (by omega)) (Int.emod_lt_of_pos _ m0) ⟨_, _, _, rfl, hx, by omega, h2, h3, h4, by omega⟩⟩
    · refine ⟨_, rfl, b, _, 2, _, rfl, rfl, SqL.of hb, rfl, _, _, rfl, rfl, _, rfl, b, _, 2, 2, rfl, rfl, hb, rfl, ?_⟩
      have hb' : ∀ o, upd H b o b = some o := fun _ => upd_same
      refine ⟨_, rfl, b, _, 1, _, rfl, rfl, SqL.of upd_same, rfl, _, rfl, b, _, 2, _, rfl, rfl, SqL.of upd_same, rfl, _, _, rfl, rfl, .inl ⟨by decide, by decide⟩, _, rfl, b, _, 2, _, rfl, rfl, SqL.of upd_same, rfl, _, _, rfl, rfl, .inr ⟨by omega, by omega⟩, _, _, rfl, rfl, _, _, rfl, rfl, _, _, rfl, rfl, .inr ⟨by decide, by decide⟩, _, _, rfl, rfl, (by show (0 : Int) < 2305843009213693921; decide), ?_⟩
      have hq0 := Int.emod_nonneg ((x1 + 65551 * (x2 + 1) * (x2 + 1) + 17) * 48299) (b := 2305843009213693921) (by decide)
      have hq1 := Int.emod_lt_of_pos ((x1 + 65551 * (x2 + 1) * (x2 + 1) + 17) * 48299) (b := 2305843009213693921) (by decide)
      refine ⟨_, rfl, _, rfl, _, _, rfl, rfl, (by show (0 : Int) < 1000033; decide), _, rfl, b, _, 2, _, rfl, rfl, SqL.of upd_same, rfl, _, _, rfl, rfl, .inl ⟨by decide, by decide⟩, _, _, rfl, rfl, _, _, rfl, rfl, .inl ⟨by omega, by omega⟩, _, _, rfl, rfl, (by show (0 : Int) < 2305843009213693907; decide), ?_⟩
      refine ⟨_, rfl, _, _, rfl, rfl, ⟨by decide, by decide⟩, _, rfl, _, _, rfl, rfl, ⟨by decide, by decide⟩, _, _, rfl, rfl, _, rfl, _, _, rfl, rfl, m0, ?_⟩
      exact k _ _ (Int.emod_nonneg _ (by omega)) (Int.emod_lt_of_pos _ m0) ⟨_, _, _, rfl, h0, h1, h2, h3, by omega, by omega⟩
/-! ### _law_of -/
def spOf : Sp := fun vs H Q _ => ∃ (b p : Addr) (n : Int) (o : HO) (xs : List V), vs = [.ref b, .ref p] ∧ H b = some o ∧ BoxO n o ∧ n ≤ 1000000 ∧ H p = some (.lst xs) ∧ p ≠ b ∧ 0 < xs.length ∧ xs.length ≤ 1000 ∧
  ∀ (j : Nat) v o', xs[j]? = some v → BoxO (n + 1) o' → Q v (upd H b o')
theorem scOf : FnScope ["_law_box_here", "_law_some"] ["_law_box_here", "_law_some"] (defScope sOf) := ⟨rfl, rfl, rfl, by decide +kernel, rfl, by decide +kernel, by decide +kernel⟩
theorem ok_of {f f1 : Addr} {fd fd1 : FuncData} (A0 : At K mg "_law_of" sOf ["_law_box_here", "_law_some"] f fd) (A1 : At K mg "_law_take" sTake ["_law_box_here", "_law_many"] f1 fd1) (T : Txt K mg) :
    FnOk P w K mg base CX0 2 f fd ["_law_box_here", "_law_some"] spOf := by
  have G1 : FnOk P w K mg base CX0 1 f1 fd1 ["_law_box_here", "_law_many"] spTake := ok_take A1
  refine A0.fn.ok scOf (fun vs H Q E h => ?_) (fun cdv A outer s H vs Q E hr h => ?_)
  · obtain ⟨b, p, n, o, xs, rfl, _⟩ := h
    rfl
  · obtain ⟨b, p, n, o, xs, rfl, hb, B, hn, hp, npb, hl0, hl1, k⟩ := h
    refine ⟨_, pss_one (ps_ret (pe_ix ix_list (pv 1) (pe_call G1 hr (by rfl) A1.mg A1.fn.kp A1.bi .nil pass0 (pa_cons (pv 0) (pa_cons (pe_callB call_len_seq (by rfl) T.len PySem.boot_len (pa_cons (pv 1) pa_nil)) pa_nil))) (fun _ _ => rfl))), ?_⟩
    have big : (xs.length : Int) < 2 ^ 1000 := Int.lt_of_le_of_lt (show (xs.length : Int) ≤ 1000 by omega) (by decide +kernel)
    refine ⟨_, rfl, _, rfl, _, rfl, p, _, rfl, .inl (SqL.of hp), b, n, _, o, rfl, hb, B, hn, by omega, big, fun v o' v0 v1 B' => ?_⟩
    obtain ⟨j, rfl⟩ := Int.eq_ofNat_of_zero_le v0
    obtain ⟨x, hx⟩ : ∃ x, xs[j]? = some x := ⟨_, List.getElem?_eq_getElem (by omega)⟩
    exact ⟨p, xs, _, x, rfl, rfl, SqL.of (by rw [upd_ne npb]; exact hp), atI_nat hx, k j x o' hx B'⟩
end
theorem at_map {ms : List Int} {i : Nat} {y : V} (h : (ms.map V.int)[i]? = some y) : ∃ m, ms[i]? = some m ∧ y = .int m ∧ i < ms.length ∧ ms.getD i 0 = m := by
  rw [List.getElem?_map] at h
  cases e : ms[i]? with
  | none =>
    rw [e] at h
    cases h
  | some m =>
    rw [e] at h
    cases h
    exact ⟨m, rfl, rfl, (List.getElem?_eq_some_iff.mp e).1, by rw [List.getD_eq_getElem?_getD, e]; rfl⟩
/-- a list of ints as data -/
theorem dpAll_ints {K : PySem.W.Frag} {H : Hp} : ∀ ns : List Int, DpAll K H (ns.map V.int) (ns.map PyData.int)
  | [] => .nil
  | n :: ns => .cons (.int n) (dpAll_ints ns)
theorem canLay_ints : ∀ ns : List Int, PyData.canLayAll0 (ns.map PyData.int) = true
  | [] => rfl
  | n :: ns => by
    show (PyData.canLay0 (.int n) && PyData.canLayAll0 (ns.map PyData.int)) = true
    rw [canLay_ints ns]
    rfl
theorem depth_ints : ∀ ns : List Int, PyData.depthAll (ns.map PyData.int) = 0
  | [] => rfl
  | n :: ns => by
    show max (PyData.depth (.int n)) (PyData.depthAll (ns.map PyData.int)) = 0
    rw [depth_ints ns]
    rfl
theorem shaped_ints (ns : List Int) : SeqAt.shaped (.list (ns.map PyData.int)) = true := by
  unfold SeqAt.shaped
  show (PyData.canLayAll0 (ns.map PyData.int) && decide (PyData.depthAll (ns.map PyData.int) + 1 ≤ 64)) = true
  rw [canLay_ints, depth_ints]
  rfl
theorem eqv_nil (ns : List Int) : PyData.eqv (.list (ns.map PyData.int)) (.list []) = decide (ns = []) := by
  cases ns with
  | nil => rfl
  | cons n ns => rfl
theorem xor_in {x y : Int} {k : Nat} (hx : 0 ≤ x ∧ x < 2 ^ k) (hy : 0 ≤ y ∧ y < 2 ^ k) : 0 ≤ Builtin.bitXor x y ∧ Builtin.bitXor x y < 2 ^ k := by
  rw [Bits.bitXor_pp hx.1 hy.1]
  have e : ((2 ^ k : Nat) : Int) = 2 ^ k := by rw [Int.natCast_pow]; rfl
  have h1 : x.toNat < 2 ^ k := by omega
  have h2 : y.toNat < 2 ^ k := by omega
  have := Nat.xor_lt_two_pow h1 h2
  omega
theorem InW.snoc {wd x : Int} {ns : List Int} (h : InW wd ns) (hx : 0 ≤ x ∧ x < 2 ^ wd.toNat) : InW wd (ns ++ [x]) := fun y hy => by
  rcases List.mem_append.mp hy with z | z
  · exact h y z
  · rw [List.mem_singleton.mp z]
    exact hx
theorem at_new {H : Hp} {p q : Addr} {o u : HO} (h : H p = some o) (hq : H q = none) : upd H q u p = some o := by
  rw [upd_ne (ne_of_none h hq)]
  exact h
theorem cut_ints (zs : List Int) (lo hi : Option Int) : ∃ cs : List Int, cutV (zs.map V.int) lo hi = cs.map V.int ∧ (∀ x ∈ cs, x ∈ zs) ∧ cs.length ≤ zs.length := by
  unfold cutV
  generalize HT.sIx (zs.map V.int).length 0 lo = a
  generalize HT.sIx (zs.map V.int).length (zs.map V.int).length hi = c
  refine ⟨(zs.drop a).take (c - a), by rw [List.map_take, List.map_drop], fun x hx => List.mem_of_mem_drop (List.mem_of_mem_take hx), ?_⟩
  rw [List.length_take, List.length_drop]
  omega
section
variable {P : Program} {w : World} {K : PySem.W.Frag} {mg : Str → Option Value} {base : Heap}
/-! ### _law_lot -/
def spLot : Sp := fun vs H Q _ => ∃ (b : Addr) (n sz m : Int) (o : HO), vs = [.ref b, .int sz, .int m] ∧ H b = some o ∧ BoxO n o ∧ n ≤ 900000 ∧ 1 ≤ sz ∧ sz ≤ 16 ∧ 0 ≤ m ∧ m ≤ 64 ∧
  ∀ (p : Addr) (ns : List Int) (H' : Hp) (o' : HO), H p = none → Sam b H H' → H' b = some o' → BoxO (n + 1 + 4 * m) o' → H' p = some (.tup (ns.map V.int)) → InW sz ns → (ns.length : Int) ≤ m → Q (.ref p) H'
theorem scLot : FnScope ["_law_box_here", "_law_size", "_law_most", "_law_found", "_law_turn", "_law_some"] ["_law_box_here", "_law_size", "_law_most"] (defScope sLot) := ⟨rfl, rfl, rfl, by decide +kernel, rfl, by decide +kernel, by decide +kernel⟩
theorem pw_le {sz : Int} (h1 : 1 ≤ sz) (h2 : sz ≤ 16) : (2 : Int) ≤ 2 ^ sz.toNat ∧ (2 : Int) ^ sz.toNat ≤ 65536 := by
  obtain ⟨k, rfl⟩ := Int.eq_ofNat_of_zero_le (show 0 ≤ sz by omega)
  have hk : k ≤ 16 := by omega
  have hk1 : 1 ≤ k := by omega
  have e : ∀ j : Nat, j < 17 → 1 ≤ j → (2 : Int) ≤ 2 ^ j ∧ (2 : Int) ^ j ≤ 65536 := by decide
  exact e k (by omega) hk1
theorem p2_lt {sz v : Int} (h1 : 1 ≤ sz) (v0 : 0 ≤ v) (v1 : v < sz) : 0 ≤ 1 * (2 : Int) ^ v.toNat ∧ 1 * (2 : Int) ^ v.toNat < 2 ^ sz.toNat := by
  rw [Int.one_mul]
  refine ⟨two_pow_nn _, ?_⟩
  have h : v.toNat < sz.toNat := by omega
  have e := Nat.pow_lt_pow_right (a := 2) (by decide) h
  have e1 : ∀ k : Nat, ((2 ^ k : Nat) : Int) = 2 ^ k := fun k => by rw [Int.natCast_pow]; rfl
  rw [← e1, ← e1]
  exact Int.ofNat_lt.mpr e
theorem ok_lot {f f1 f2 : Addr} {fd fd1 fd2 : FuncData} (A0 : At K mg "_law_lot" sLot ["_law_box_here", "_law_size", "_law_most"] f fd) (A1 : At K mg "_law_take" sTake ["_law_box_here", "_law_many"] f1 fd1)
    (A2 : At K mg "_law_of" sOf ["_law_box_here", "_law_some"] f2 fd2) (T : Txt K mg) : FnOk P w K mg base CX0 3 f fd ["_law_box_here", "_law_size", "_law_most"] spLot := by
  have G1 : FnOk P w K mg base CX0 1 f1 fd1 ["_law_box_here", "_law_many"] spTake := ok_take A1
  have G2 : FnOk P w K mg base CX0 2 f2 fd2 ["_law_box_here", "_law_some"] spOf := ok_of A2 A1 T
  refine A0.fn.ok scLot (fun vs H Q E h => ?_) (fun cdv A outer s H vs Q E hr h => ?_)
  · obtain ⟨b, n, sz, m, o, rfl, _⟩ := h
    rfl
  · obtain ⟨b, n, sz, m, o, rfl, hb, B, hn, s1, s2, m1, m2, k⟩ := h
    have hr1 : Room 1 _ := hr.mono (by decide)
    refine ⟨_, (pss_cons (ps_set (i := 3) scLot.nd rfl (Or.inl rfl) (pe_lst pa_nil))
        (pss_cons (ps_for PassesOwn.never rfl (pi_range1 (by rfl) T.range (pa_cons (pe_call G1 hr1 (by rfl) A1.mg A1.fn.kp A1.bi .nil pass0 (pa_cons (pv 0) (pa_cons (pe_op op_add (pv 2) pe_int) pa_nil))) pa_nil)) (pg_name (i := 4) scLot.nd rfl (Or.inl rfl))
        (pss_cons (ps_set (i := 5) scLot.nd rfl (Or.inl rfl) (pe_lst (pa_cons (pe_call G1 hr1 (by rfl) A1.mg A1.fn.kp A1.bi .nil pass0 (pa_cons (pv 0) (pa_cons (pe_op op_shl pe_int (pv 1)) pa_nil))) (pa_cons (pe_op op_shl pe_int (pe_call G1 hr1 (by rfl) A1.mg A1.fn.kp A1.bi .nil pass0 (pa_cons (pv 0) (pa_cons (pv 1) pa_nil)))) (pa_cons pe_int pa_nil)))))
        (pss_cons (ps_if (pt_cmpR (op_neD hr.units) (pv 3) (pe_lst pa_nil) (nomark _)) (pss_one (ps_set (i := 5) scLot.nd rfl (Or.inl rfl) (pe_op op_cat (pv 5) (pe_lst (pa_cons (pe_op op_xor (pe_ix ix_list (pv 3) (pe_un un_neg pe_int) (fun _ _ => rfl)) (pe_call G2 hr (by rfl) A2.mg A2.fn.kp A2.bi .nil pass0 (pa_cons (pv 0) (pa_cons (pv 3) pa_nil)))) pa_nil))))) pss_nil)
        (pss_one (ps_expr (pe_bm PySem.F.plainAttrs_list PySem.F.slot_list_append PySem.F.type_list_append mt_append (pv 3) (pa_cons (pe_call G2 hr (by rfl) A2.mg A2.fn.kp A2.bi .nil pass0 (pa_cons (pv 0) (pa_cons (pe_op op_cat (pv 5) (pe_slice sl_list (pv 5) po_none (po_some pe_int))) pa_nil))) pa_nil)))))))
        (pss_one (ps_ret (pe_callTy call_tuple_of (by rfl) T.tuple (by decide +kernel) (pa_cons (pv 3) pa_nil)))))), ?_⟩
    obtain ⟨p2a, p2b⟩ := pw_le s1 s2
    have big : ∀ {x : Int}, x ≤ 70000 → x < 2 ^ 1000 := fun h => Int.lt_of_le_of_lt h (by decide +kernel)
    refine ⟨Nat.zero_le _, fun l hl => ?_⟩
    have nbl : b ≠ l := ne_of_none hb hl
    refine ⟨_, rfl, _, rfl, _, _, rfl, rfl, b, n, _, o, rfl, by rw [upd_ne nbl]; exact hb, B, by omega, by omega, big (by omega), fun v o' v0 v1 B' => ?_⟩
    refine ⟨v, rfl, by omega, by omega, ?_⟩
    -- between two turns
    refine for_range (lo := 0) (n := v.toNat) (fun i σ H' => ∃ (ns : List Int) (o1 : HO) (t u : Option V), σ = [some (.ref b), some (.int sz), some (.int m), some (.ref l), t, u] ∧ Sam b H H' ∧ H' b = some o1 ∧ BoxO (n + 1 + 4 * (i : Int)) o1 ∧
        H' l = some (.lst (ns.map V.int)) ∧ InW sz ns ∧ ns.length = i) ⟨[], o', none, none, rfl, ?_, upd_same, by simpa using B', by rw [upd_ne nbl.symm]; exact upd_same, (fun x hx => by cases hx), rfl⟩ ?_ ?_
    · intro c u nc e
      rw [upd_ne nc, upd_ne (ne_of_none e hl)]
      exact e
    · rintro i σ H1 hi ⟨ns, o1, t, u, rfl, sm, hb1, B1, hl1, hin, hlen⟩
      have hil : i < 64 := by omega
      refine ⟨_, rfl, _, rfl, _, _, rfl, rfl, ⟨by omega, by omega, by decide⟩, b, _, _, o1, rfl, hb1, B1, by omega, by omega, big (by omega), fun v1 o2 w0 w1 B2 => ?_⟩
      refine ⟨_, rfl, _, rfl, b, _, sz, o2, rfl, upd_same, B2, by omega, by omega, big (by omega), fun v2 o3 x0 x1 B3 => ?_⟩
      refine ⟨_, _, rfl, rfl, ⟨x0, by omega, by decide⟩, by show 3 ≤ sizeLine; decide, fun q hq => ?_⟩
      have nlb : l ≠ b := nbl.symm
      have sm1 : Sam b H1 (upd (upd (upd H1 b o2) b o3) q (.lst [.int v1, .int (1 * 2 ^ v2.toNat), .int 0])) := (Sam.upd.trans Sam.upd).new hq
      have fb : (upd (upd (upd H1 b o2) b o3) q (.lst [.int v1, .int (1 * 2 ^ v2.toNat), .int 0])) b = some o3 := at_new upd_same hq
      have hin3 : InW sz [v1, 1 * 2 ^ v2.toNat, 0] := fun x hx => by
        rcases List.mem_cons.mp hx with rfl | hx
        · exact ⟨w0, by omega⟩
        · rcases List.mem_cons.mp hx with rfl | hx
          · exact p2_lt s1 x0 x1
          · rw [List.mem_singleton.mp hx]
            exact ⟨Int.le_refl 0, by omega⟩
      have nqb : q ≠ b := (ne_of_none (H := upd (upd H1 b o2) b o3) upd_same hq).symm
      have nql : q ≠ l := (ne_of_none (H := upd (upd H1 b o2) b o3) (by rw [upd_ne nlb, upd_ne nlb]; exact hl1) hq).symm
      refine ⟨_, rfl, Nat.zero_le _, fun e he => ?_⟩
      have fl := sm1 l _ nlb hl1
      have fr := (fun h => at_new (p := q) (o := .lst ([v1, 1 * 2 ^ v2.toNat, 0].map V.int)) (u := .lst []) h he) upd_same
      refine ⟨.list (ns.map PyData.int), .list [], .lst (SqL.of (at_new fl he)) (dpAll_ints ns), .lst (SqL.of upd_same) .nil, shaped_ints ns, shaped_ints [], _, rfl, ?_⟩
      have sm2 := sm1.new (o := .lst []) he
      have fb2 := at_new (u := .lst []) fb he
      have fl2 := at_new (u := .lst []) fl he
      refine ite2 (fun hz => ?g1) (fun hz => ?g2)
      case' g1 =>
        have hne : ns ≠ [] := fun z => by
          rw [eqv_nil, z] at hz
          cases hz
        obtain ⟨ys, y, ens⟩ : ∃ ys y, ns = ys ++ [y] := ⟨_, _, (List.dropLast_concat_getLast hne).symm⟩
        have hy := hin y (by rw [ens]; simp)
        refine ⟨_, rfl, _, rfl, _, rfl, l, _, _, V.int y, rfl, rfl, SqL.of fl2, (by rw [ens, List.map_append]; exact atI_last _ _), ?_⟩
        refine ⟨_, rfl, _, rfl, b, l, _, o3, _, rfl, fb2, B3, by omega, fl2, nlb, (by rw [ens]; simp), (by rw [List.length_map]; omega), fun j z o4 hj B4 => ?_⟩
        obtain ⟨x, ex, rfl, _, _⟩ := at_map hj
        have hx := hin x (List.mem_of_getElem? ex)
        have hxy := xor_in hy hx
        refine ⟨_, _, rfl, rfl, by show 1 ≤ sizeLine; decide, fun r hr' => ?_⟩
        have sm3 := (sm2.trans (Sam.upd (o := o4))).new (o := .lst [.int (Builtin.bitXor y x)]) hr'
        have fb3 := at_new (p := b) (o := o4) (u := .lst [.int (Builtin.bitXor y x)]) upd_same hr'
        have fl3 := sm3 l _ nlb hl1
        have fr3 := at_new (p := q) (u := .lst [.int (Builtin.bitXor y x)]) ((upd_ne nqb).trans fr) hr'
        refine ⟨q, r, _, [.int (Builtin.bitXor y x)], rfl, rfl, fr3, upd_same, by show 4 ≤ sizeLine; decide, fun p hp => ?_⟩
        have sm4 := sm3.new (o := .lst ([v1, 1 * 2 ^ v2.toNat, 0, Builtin.bitXor y x].map V.int)) hp
        have fb4 := at_new (u := .lst ([v1, 1 * 2 ^ v2.toNat, 0, Builtin.bitXor y x].map V.int)) fb3 hp
        have fl4 := at_new (u := .lst ([v1, 1 * 2 ^ v2.toNat, 0, Builtin.bitXor y x].map V.int)) fl3 hp
        have npb : p ≠ b := (ne_of_none fb3 hp).symm
        have npl : p ≠ l := (ne_of_none fl3 hp).symm
        have inz : InW sz [v1, 1 * 2 ^ v2.toNat, 0, Builtin.bitXor y x] := hin3.snoc (ns := [v1, 1 * 2 ^ v2.toNat, 0]) hxy
        have fz : ∀ H' : Hp, upd H' p (.lst ([v1, 1 * 2 ^ v2.toNat, 0, Builtin.bitXor y x].map V.int)) p = some (.lst ([v1, 1 * 2 ^ v2.toNat, 0, Builtin.bitXor y x].map V.int)) := fun _ => upd_same
        obtain ⟨cs, ec, hcs, lcs⟩ := cut_ints [v1, 1 * 2 ^ v2.toNat, 0, Builtin.bitXor y x] none (some 2)
        refine ⟨_, rfl, .inl ⟨rfl, _, SqL.of fl4⟩, _, rfl, _, rfl, _, rfl, _, rfl, p, _, rfl, SqL.of (fz _), fun c hc => ?_⟩
        refine ⟨p, c, _, _, rfl, rfl, at_new (fz _) hc, upd_same, (by rw [ec, List.length_map, List.length_map]; exact Nat.le_trans (Nat.add_le_add (Nat.le_refl 4) lcs) (by show 4 + 4 ≤ sizeLine; decide)), fun d hd => ?_⟩
        have sm5 := (sm4.new (o := .lst (cutV ([v1, 1 * 2 ^ v2.toNat, 0, Builtin.bitXor y x].map V.int) none (some 2))) hc).new (o := .lst ([v1, 1 * 2 ^ v2.toNat, 0, Builtin.bitXor y x].map V.int ++ cutV ([v1, 1 * 2 ^ v2.toNat, 0, Builtin.bitXor y x].map V.int) none (some 2))) hd
        have fb5 := (fun h => at_new (p := b) (o := o4) (u := .lst ([v1, 1 * 2 ^ v2.toNat, 0, Builtin.bitXor y x].map V.int ++ cutV ([v1, 1 * 2 ^ v2.toNat, 0, Builtin.bitXor y x].map V.int) none (some 2))) h hd) (at_new fb4 hc)
        have ndb : d ≠ b := (fun h => (ne_of_none (a := b) (o := o4) h hd).symm) (at_new fb4 hc)
      case' g2 =>
        have fz := fr
        obtain ⟨cs, ec, hcs, lcs⟩ := cut_ints [v1, 1 * 2 ^ v2.toNat, 0] none (some 2)
        refine ⟨_, rfl, .inl ⟨rfl, _, SqL.of fl2⟩, _, rfl, _, rfl, _, rfl, _, rfl, q, _, rfl, SqL.of fz, fun c hc => ?_⟩
        refine ⟨q, c, _, _, rfl, rfl, at_new fz hc, upd_same, (by rw [ec, List.length_map, List.length_map]; exact Nat.le_trans (Nat.add_le_add (Nat.le_refl 3) lcs) (by show 3 + 3 ≤ sizeLine; decide)), fun d hd => ?_⟩
        have sm5 := (sm2.new (o := .lst (cutV ([v1, 1 * 2 ^ v2.toNat, 0].map V.int) none (some 2))) hc).new (o := .lst ([v1, 1 * 2 ^ v2.toNat, 0].map V.int ++ cutV ([v1, 1 * 2 ^ v2.toNat, 0].map V.int) none (some 2))) hd
        have fb5 := (fun h => at_new (p := b) (o := o3) (u := .lst ([v1, 1 * 2 ^ v2.toNat, 0].map V.int ++ cutV ([v1, 1 * 2 ^ v2.toNat, 0].map V.int) none (some 2))) h hd) (at_new fb2 hc)
        have ndb : d ≠ b := (fun h => (ne_of_none (a := b) (o := o3) h hd).symm) (at_new fb2 hc)
        have B4 := B3.mono (show n + 1 + 4 * (i : Int) + 1 + 1 ≤ n + 1 + 4 * (i : Int) + 1 + 1 + 1 by omega)
        have inz := hin3
      all_goals
        have fl5 := sm5 l _ nlb hl1
        refine ⟨b, d, _, _, _, rfl, fb5, B4, by omega, upd_same, ndb, by simp, (by rw [ec, List.length_append, List.length_map, List.length_map]; simp at lcs ⊢; omega), fun j z o5 hj B5 => ?_⟩
        rw [ec, ← List.map_append] at hj
        obtain ⟨y', ey, rfl, _, _⟩ := at_map hj
        have hyy : 0 ≤ y' ∧ y' < 2 ^ sz.toNat := by
          rcases List.mem_append.mp (List.mem_of_getElem? ey) with z | z
          · exact inz _ z
          · exact inz _ (hcs _ z)
        refine ⟨l, _, _, rfl, rfl, (upd_ne nlb).trans fl5, (by rw [List.length_map, hlen]; exact Nat.lt_trans hil (by decide)), ?_⟩
        refine ⟨ns ++ [y'], o5, _, _, rfl, ?_, (by rw [upd_ne nbl]; exact upd_same), B5.mono (by omega), (by rw [upd_same, List.map_append]; rfl), hin.snoc hyy, (by rw [List.length_append, hlen]; rfl)⟩
        intro c' u' nc e'
        rw [upd_ne (ne_of_none e' hl), upd_ne nc]
        exact sm5 c' u' nc (sm c' u' nc e')
    · rintro σ H1 ⟨ns, o1, t, u, rfl, sm, hb1, B1, hl1, hin, hlen⟩
      refine ⟨_, rfl, l, _, rfl, .inl ⟨SqL.of hl1, fun p hp => ?_⟩⟩
      have nlp : l ≠ p := ne_of_none hl1 hp
      refine k p ns _ o1 ?_ (sm.new hp) (by rw [upd_ne (ne_of_none hb1 hp)]; exact hb1) (B1.mono (by omega)) upd_same hin (by omega)
      cases e : H p with
      | none => rfl
      | some u =>
        have npb : p ≠ b := fun z => by subst z; rw [hb1] at hp; cases hp
        rw [sm p u npb e] at hp
        cases hp
/-! ### _law_plan -/
theorem scPlan : FnScope ["_law_box_here", "_law_size", "_law_many"] ["_law_box_here", "_law_size", "_law_many"] (defScope sPlan) := ⟨rfl, rfl, rfl, by decide +kernel, rfl, by decide +kernel, by decide +kernel⟩
theorem ok_plan {f f1 f2 f3 : Addr} {fd fd1 fd2 fd3 : FuncData} (A0 : At K mg "_law_plan" sPlan ["_law_box_here", "_law_size", "_law_many"] f fd) (A1 : At K mg "_law_take" sTake ["_law_box_here", "_law_many"] f1 fd1)
    (A2 : At K mg "_law_of" sOf ["_law_box_here", "_law_some"] f2 fd2) (A3 : At K mg "_law_lot" sLot ["_law_box_here", "_law_size", "_law_most"] f3 fd3) (T : Txt K mg) : FnOk P w K mg base CX0 4 f fd ["_law_box_here", "_law_size", "_law_many"] spLot := by
  have G3 : FnOk P w K mg base CX0 3 f3 fd3 ["_law_box_here", "_law_size", "_law_most"] spLot := ok_lot A3 A1 A2 T
  refine A0.fn.ok scPlan (fun vs H Q E h => ?_) (fun cdv A outer s H vs Q E hr h => ?_)
  · obtain ⟨b, n, sz, m, o, rfl, _⟩ := h
    rfl
  · obtain ⟨b, n, sz, m, o, rfl, rest⟩ := h
    refine ⟨_, pss_one (ps_ret (pe_call G3 hr (by rfl) A3.mg A3.fn.kp A3.bi .nil pass0 (pa_cons (pv 0) (pa_cons (pv 1) (pa_cons (pv 2) pa_nil))))), ?_⟩
    exact ⟨_, rfl, _, rfl, _, rfl, b, n, sz, m, o, rfl, rest⟩
end
end X1
set_option Elab.async false
set_option maxRecDepth 100000
namespace X1.V
open PySem PySem.Spec PyProof.Rows L2
open GF (pc par pc_0 pc_eq par_lt)
theorem digit_code (b : Nat) (h : b < 2) : (Nat.digitChar b).toNat = 48 + b := by
  match b, h with
  | 0, _ => decide
  | 1, _ => decide
theorem cnt_core : ∀ (fuel n : Nat) (ds : List Char), n < fuel → cnt 49 ((Nat.toDigitsCore 2 fuel n ds).map Char.toNat) = (pc n : Int) + cnt 49 (ds.map Char.toNat)
  | 0, _, _, h => absurd h (Nat.not_lt_zero _)
  | fuel + 1, n, ds, h => by
    have hb : n % 2 < 2 := Nat.mod_lt _ (by decide)
    have step : cnt 49 ((Nat.digitChar (n % 2) :: ds).map Char.toNat) = ((n % 2 : Nat) : Int) + cnt 49 (ds.map Char.toNat) := by
      rw [List.map_cons, cnt_cons, digit_code _ hb]
      by_cases h1 : n % 2 = 1
      · rw [h1]
        rfl
      · have h0 : n % 2 = 0 := by omega
        rw [h0]
        rfl
    unfold Nat.toDigitsCore
    by_cases h0 : n / 2 = 0
    · simp only [h0, if_true]
      rw [step, pc_eq n, h0, pc_0, Nat.add_zero]
    · simp only [h0, if_false]
      rw [cnt_core fuel (n / 2) _ (by omega), step, pc_eq n]
      omega
theorem cnt_bin (n : Nat) : Txt.count (G.binText n) ("1" : Str) = (pc n : Int) := by
  have e : ("1" : Str) = ⟨#[49]⟩ := by decide +kernel
  rw [e, count_cnt]
  show cnt 49 (G.binL n) = _
  unfold G.binL Nat.toDigits
  rw [cnt_core (n + 1) n [] (Nat.lt_succ_self n)]
  show (pc n : Int) + 0 = pc n
  omega
end X1.V
set_option Elab.async false
set_option maxRecDepth 100000
set_option maxHeartbeats 8000000
set_option pp.maxSteps 600
namespace X1.V
open PySem L2
open GF (pc par pc_0 pc_eq par_lt)
section
variable {P : Program} {w : World} {K : PySem.W.Frag} {mg : Str → Option Value} {base : Heap}
/-! ### is_int, of an int -/
def spIsInt : Sp := fun vs H Q _ => ∃ i : Int, vs = [.int i] ∧ Q (.bl true) H
theorem scIsInt : FnScope ["value"] ["value"] (defScope sIsInt) := ⟨rfl, rfl, rfl, by decide +kernel, rfl, by decide +kernel, by decide +kernel⟩
theorem ok_isInt {f : Addr} {fd : FuncData} (A0 : At K mg "is_int" sIsInt ["value"] f fd) (T : Txt K mg) : FnOk P w K mg base CX0 1 f fd ["value"] spIsInt := by
  refine A0.fn.ok scIsInt (fun vs H Q E h => ?_) (fun cdv A outer s H vs Q E hr h => ?_)
  · obtain ⟨i, rfl, _⟩ := h
    rfl
  · obtain ⟨i, rfl, k⟩ := h
    refine ⟨_, pss_one (ps_ret (pe_and (pe_callB call_isi (by rfl) T.isinstance (by decide +kernel) (pa_cons (pv 0) (pa_cons (pe_bltn (v := .ty "int") (by rfl) T.int (by decide +kernel) rfl) pa_nil)))
      (pe_one (pe_not (pe_callB call_isi (by rfl) T.isinstance (by decide +kernel) (pa_cons (pv 0) (pa_cons (pe_bltn (v := .ty "bool") (by rfl) T.bool (by decide +kernel) rfl) pa_nil))))))), ?_⟩
    refine ⟨_, rfl, _, _, _, _, _, rfl, .ty _, .base (.int _), kit_ty (r := true) (by decide +kernel), _, rfl, iteT ?_⟩
    exact ⟨_, rfl, _, _, _, _, _, rfl, .ty _, .base (.int _), kit_ty (r := false) (by decide +kernel), _, rfl, k⟩

/-! ### is_address, of ints -/
def spIsAddr : Sp := fun vs H Q _ => ∃ wd v : Int, vs = [.int wd, .int v] ∧ 0 ≤ wd ∧ wd ≤ 1000 ∧ Q (.bl (decide (0 ≤ v ∧ v < 2 ^ wd.toNat))) H
theorem scIsAddr : FnScope ["width", "value"] ["width", "value"] (defScope sIsAddr) := ⟨rfl, rfl, rfl, by decide +kernel, rfl, by decide +kernel, by decide +kernel⟩
theorem ok_isAddr {f f1 : Addr} {fd fd1 : FuncData} (A0 : At K mg "is_address" sIsAddr ["width", "value"] f fd) (A1 : At K mg "is_int" sIsInt ["value"] f1 fd1) (T : Txt K mg) :
    FnOk P w K mg base CX0 2 f fd ["width", "value"] spIsAddr := by
  have G1 : FnOk P w K mg base CX0 1 f1 fd1 ["value"] spIsInt := ok_isInt A1 T
  refine A0.fn.ok scIsAddr (fun vs H Q E h => ?_) (fun cdv A outer s H vs Q E hr h => ?_)
  · obtain ⟨i, j, rfl, _⟩ := h
    rfl
  · obtain ⟨wd, v, rfl, h0, h1, k⟩ := h
    refine ⟨_, pss_one (ps_ret (pe_and (pe_call G1 hr (by rfl) A1.mg A1.fn.kp A1.bi .nil pass0 (pa_cons (pv 1) pa_nil))
      (pe_one (pe_chain op_le op_lt pe_int (pv 1) (pe_op op_shl pe_int (pv 0)))))), ?_⟩
    refine ⟨_, rfl, _, rfl, _, rfl, iteT ?_⟩
    refine ⟨_, rfl, _, _, rfl, rfl, _, rfl, ?_⟩
    by_cases hv : 0 ≤ v
    · refine iteTb (decide_eq_true hv) ?_
      refine ⟨_, rfl, _, _, rfl, rfl, ⟨h0, by omega, by decide⟩, _, _, rfl, rfl, ?_⟩
      exact qv (by rw [Int.one_mul]; simp [hv]) k
    · refine iteFb (decide_eq_false hv) ?_
      exact qv (by simp [hv]) k
/-! ### are_addresses, of a tuple of addresses -/
def spAreAddrs (K : PySem.W.Frag) : Sp := fun vs H Q _ => ∃ (wd m : Int) (p : Addr) (ns : List Int), vs = [.int wd, .ref p, .int m] ∧ 0 ≤ wd ∧ wd ≤ 1000 ∧ H p = some (.tup (ns.map V.int)) ∧ (ns.length : Int) ≤ m ∧ ns.length ≤ 1000 ∧ InW wd ns ∧
  ∀ H', Same H H' → Q (.bl true) H'
theorem scAreAddrs : FnScope ["width", "value", "most", "item"] ["width", "value", "most"] (defScope sAreAddrs) := ⟨rfl, rfl, rfl, by decide +kernel, rfl, by decide +kernel, by decide +kernel⟩
theorem ok_areAddrs {f f1 f2 : Addr} {fd fd1 fd2 : FuncData} (A0 : At K mg "are_addresses" sAreAddrs ["width", "value", "most"] f fd) (A1 : At K mg "is_int" sIsInt ["value"] f1 fd1)
    (A2 : At K mg "is_address" sIsAddr ["width", "value"] f2 fd2) (T : Txt K mg) : FnOk P w K mg base CX0 3 f fd ["width", "value", "most"] (spAreAddrs K) := by
  have G2 : FnOk P w K mg base CX0 2 f2 fd2 ["width", "value"] spIsAddr := ok_isAddr A2 A1 T
  refine A0.fn.ok scAreAddrs (fun vs H Q E h => ?_) (fun cdv A outer s H vs Q E hr h => ?_)
  · obtain ⟨wd, m, p, ns, rfl, _⟩ := h
    rfl
  · obtain ⟨wd, m, p, ns, rfl, h0, h1, hp, hm, hl, hin, k⟩ := h
    refine ⟨_, pss_cons (ps_if (PW.pt (pw_or (pt_not (pt_val (pe_callB call_isi (by rfl) T.isinstance (by decide +kernel) (pa_cons (pv 1) (pa_cons (pe_bltn (v := .ty "tuple") (by rfl) T.tuple (by decide +kernel) rfl) pa_nil)))))
        (pw_or1 (pt_cmpR op_gt (pe_callB call_len_seq (by rfl) T.len PySem.boot_len (pa_cons (pv 1) pa_nil)) (pv 2) (nomark _))))) (pss_one (ps_ret pe_bl)) pss_nil)
      (pss_one (ps_ret (pe_callB (cr_all rfl) (by rfl) T.all (by decide +kernel) (pa_cons (pe_lc (own := [("item", 3)]) (g := gName 3) (tt := tYes) rfl scAreAddrs.nd (pi_tup (pv 1))
        (blkOk_by (N := ["width", "value", "most", "item"]) (sc := defScope sAreAddrs) (by decide +kernel)) (fun _ _ _ _ _ => pg_name (i := 3) scAreAddrs.nd rfl (Or.inl rfl)) (fun _ _ _ _ _ => pts_nil)
        (fun _ _ _ _ _ => pe_call G2 hr (by rfl) A2.mg A2.fn.kp A2.bi .nil pass0 (pa_cons (pv 0) (pa_cons (pv 3) pa_nil)))) pa_nil)))), ?_⟩
    refine ⟨_, rfl, _, _, _, _, _, rfl, .ty _, .base (.tup hp), kit_ty (r := true) (by decide +kernel), _, rfl, iteF ?_⟩
    refine ⟨_, rfl, _, _, rfl, .inr (SqT.of hp), _, rfl, _, _, rfl, rfl, _, rfl, ?_⟩
    refine iteFb (decide_eq_false (by rw [List.length_map]; omega)) ?_
    refine ⟨_, rfl, _, rfl, ⟨_, SqT.of hp⟩, fun D hD => ?_⟩
    have npD : p ≠ D := ne_of_none hp hD
    refine lc_tup (K := K) (a := p) (xs := ns.map V.int) (fun i H' => (∀ b o, b ≠ D → H b = some o → H' b = some o) ∧ H' D = some (.lst ((List.replicate i true).map V.bl))) ⟨fun b o n e => by rw [upd_ne n]; exact e, upd_same⟩ (fun i H' _ ⟨s1, _⟩ => SqT.of (s1 _ _ npD hp)) ?_ ?_
    · rintro i x H' hi ⟨s1, hd⟩
      rw [List.getElem?_map] at hi
      cases e : ns[i]? with
      | none =>
        rw [e] at hi
        cases hi
      | some u =>
        rw [e] at hi
        cases hi
        have hu := hin u (List.mem_of_getElem? e)
        have hil : i < ns.length := (List.getElem?_eq_some_iff.mp e).1
        refine ⟨rfl, yes (iteT ?_)⟩
        refine ⟨_, rfl, _, rfl, wd, u, rfl, h0, h1, _, hd, ?_, ?_⟩
        · rw [List.length_map, List.length_replicate]
          exact Nat.lt_of_lt_of_le hil (Nat.le_trans hl (by decide))
        · refine ⟨fun b o n e => by rw [upd_ne n]; exact s1 b o n e, ?_⟩
          rw [upd_same, decide_eq_true hu, List.replicate_succ', List.map_append]
          rfl
    · rintro H' ⟨s1, hd⟩
      rw [List.length_map] at hd
      refine ⟨D, _, rfl, SqL.of hd, ?_⟩
      rw [show (List.replicate ns.length true).all id = true by simp]
      exact k H' fun b o e => s1 b o (ne_of_none e hD) e
/-! ### are_masks -/
def spAreMasks (K : PySem.W.Frag) : Sp := fun vs H Q _ => ∃ (wd : Int) (p : Addr) (ns : List Int), vs = [.int wd, .ref p] ∧ 0 ≤ wd ∧ wd ≤ 1000 ∧ H p = some (.tup (ns.map V.int)) ∧ ns.length ≤ 16 ∧ InW wd ns ∧ ∀ H', Same H H' → Q (.bl true) H'
theorem scAreMasks : FnScope ["width", "value"] ["width", "value"] (defScope sAreMasks) := ⟨rfl, rfl, rfl, by decide +kernel, rfl, by decide +kernel, by decide +kernel⟩
theorem ok_areMasks {f f1 f2 f3 : Addr} {fd fd1 fd2 fd3 : FuncData} (A0 : At K mg "are_masks" sAreMasks ["width", "value"] f fd) (A1 : At K mg "is_int" sIsInt ["value"] f1 fd1)
    (A2 : At K mg "is_address" sIsAddr ["width", "value"] f2 fd2) (A3 : At K mg "are_addresses" sAreAddrs ["width", "value", "most"] f3 fd3) (T : Txt K mg) : FnOk P w K mg base CX0 4 f fd ["width", "value"] (spAreMasks K) := by
  have G3 : FnOk P w K mg base CX0 3 f3 fd3 ["width", "value", "most"] (spAreAddrs K) := ok_areAddrs A3 A1 A2 T
  obtain ⟨tm, hmm⟩ := T.mMasks
  refine A0.fn.ok scAreMasks (fun vs H Q E h => ?_) (fun cdv A outer s H vs Q E hr h => ?_)
  · obtain ⟨wd, p, ns, rfl, _⟩ := h
    rfl
  · obtain ⟨wd, p, ns, rfl, h0, h1, hp, hl, hin, k⟩ := h
    refine ⟨_, pss_one (ps_ret (pe_call G3 hr (by rfl) A3.mg A3.fn.kp A3.bi .nil pass0 (pa_cons (pv 0) (pa_cons (pv 1) (pa_cons (pe_glob (v := .int 16) (by rfl) hmm ⟨_, rfl⟩) pa_nil))))), ?_⟩
    exact ⟨_, rfl, _, rfl, wd, 16, p, ns, rfl, h0, h1, hp, by omega, by omega, hin, k⟩
/-! ### the checks -/
/-! ### is_width, of an int -/
def spIsWidth : Sp := fun vs H Q _ => ∃ wd : Int, vs = [.int wd] ∧ 1 ≤ wd ∧ wd ≤ 16 ∧ Q (.bl true) H
theorem scIsWidth : FnScope ["value"] ["value"] (defScope sIsWidth) := ⟨rfl, rfl, rfl, by decide +kernel, rfl, by decide +kernel, by decide +kernel⟩
theorem ok_isWidth {f f1 : Addr} {fd fd1 : FuncData} (A0 : At K mg "is_width" sIsWidth ["value"] f fd) (A1 : At K mg "is_int" sIsInt ["value"] f1 fd1) (T : Txt K mg) : FnOk P w K mg base CX0 2 f fd ["value"] spIsWidth := by
  have G1 : FnOk P w K mg base CX0 1 f1 fd1 ["value"] spIsInt := ok_isInt A1 T
  obtain ⟨tw, hmw⟩ := T.mWidth
  refine A0.fn.ok scIsWidth (fun vs H Q E h => ?_) (fun cdv A outer s H vs Q E hr h => ?_)
  · obtain ⟨wd, rfl, _⟩ := h
    rfl
  · obtain ⟨wd, rfl, h0, h1, k⟩ := h
    refine ⟨_, pss_one (ps_ret (pe_and (pe_call G1 hr (by rfl) A1.mg A1.fn.kp A1.bi .nil pass0 (pa_cons (pv 0) pa_nil)) (pe_one (pe_chain op_le op_le pe_int (pv 0) (pe_glob (v := .int 16) (by rfl) hmw ⟨_, rfl⟩))))), ?_⟩
    refine ⟨_, rfl, _, rfl, _, rfl, iteT ?_⟩
    refine ⟨_, rfl, _, _, rfl, rfl, _, rfl, ?_⟩
    refine iteTb (decide_eq_true h0) ?_
    refine ⟨_, _, rfl, rfl, ?_⟩
    exact qv (show V.bl (decide (wd ≤ 16)) = V.bl true by rw [decide_eq_true h1]) k
def spCkWidth : Sp := fun vs H Q _ => ∃ wd : Int, vs = [.int wd] ∧ 1 ≤ wd ∧ wd ≤ 16 ∧ Q .non H
theorem scCkWidth : FnScope ["width"] ["width"] (defScope sCkWidth) := ⟨rfl, rfl, rfl, by decide +kernel, rfl, by decide +kernel, by decide +kernel⟩
theorem ok_ckWidth {f f1 : Addr} {fd fd1 : FuncData} (A0 : At K mg "check_width" sCkWidth ["width"] f fd) (A1 : At K mg "is_int" sIsInt ["value"] f1 fd1) (T : Txt K mg) : FnOk P w K mg base CX0 3 f fd ["width"] spCkWidth := by
  obtain ⟨f2, fd2, A2⟩ := T.isWidth
  have G2 : FnOk P w K mg base CX0 2 f2 fd2 ["value"] spIsWidth := ok_isWidth A2 A1 T
  refine A0.fn.ok scCkWidth (fun vs H Q E h => ?_) (fun cdv A outer s H vs Q E hr h => ?_)
  · obtain ⟨wd, rfl, _⟩ := h
    rfl
  · obtain ⟨wd, rfl, h0, h1, k⟩ := h
    refine ⟨_, pss_one (ps_if (pt_not (pt_val (pe_call G2 hr (by rfl) A2.mg A2.fn.kp A2.bi .nil pass0 (pa_cons (pv 0) pa_nil)))) (pss_one ps_never) pss_nil), ?_⟩
    refine ⟨_, rfl, _, rfl, h0, h1, _, rfl, ?_⟩
    exact iteF k
def spCkMap (K : PySem.W.Frag) : Sp := fun vs H Q _ => ∃ (wd : Int) (p : Addr) (ns : List Int), vs = [.int wd, .ref p] ∧ 0 ≤ wd ∧ wd ≤ 1000 ∧ H p = some (.tup (ns.map V.int)) ∧ ns.length ≤ 16 ∧ InW wd ns ∧ ∀ H', Same H H' → Q .non H'
theorem scCkMap : FnScope ["width", "masks"] ["width", "masks"] (defScope sCkMap) := ⟨rfl, rfl, rfl, by decide +kernel, rfl, by decide +kernel, by decide +kernel⟩
theorem ok_ckMap {f f1 f2 f3 f4 : Addr} {fd fd1 fd2 fd3 fd4 : FuncData} (A0 : At K mg "check_map" sCkMap ["width", "masks"] f fd) (A1 : At K mg "is_int" sIsInt ["value"] f1 fd1)
    (A2 : At K mg "is_address" sIsAddr ["width", "value"] f2 fd2) (A3 : At K mg "are_addresses" sAreAddrs ["width", "value", "most"] f3 fd3) (A4 : At K mg "are_masks" sAreMasks ["width", "value"] f4 fd4) (T : Txt K mg) :
    FnOk P w K mg base CX0 5 f fd ["width", "masks"] (spCkMap K) := by
  have G4 : FnOk P w K mg base CX0 4 f4 fd4 ["width", "value"] (spAreMasks K) := ok_areMasks A4 A1 A2 A3 T
  refine A0.fn.ok scCkMap (fun vs H Q E h => ?_) (fun cdv A outer s H vs Q E hr h => ?_)
  · obtain ⟨wd, p, ns, rfl, _⟩ := h
    rfl
  · obtain ⟨wd, p, ns, rfl, h0, h1, hp, hl, hin, k⟩ := h
    refine ⟨_, pss_one (ps_if (pt_not (pt_val (pe_call G4 hr (by rfl) A4.mg A4.fn.kp A4.bi .nil pass0 (pa_cons (pv 0) (pa_cons (pv 1) pa_nil))))) (pss_one ps_never) pss_nil), ?_⟩
    exact ⟨_, rfl, _, rfl, wd, p, ns, rfl, h0, h1, hp, hl, hin, fun H' sm => ⟨_, rfl, iteF (k H' sm)⟩⟩
end
section
variable {P : Program} {w : World} {K : PySem.W.Frag} {mg : Str → Option Value} {base : Heap}
def spCkAddr : Sp := fun vs H Q _ => ∃ wd v : Int, vs = [.int wd, .int v] ∧ 0 ≤ wd ∧ wd ≤ 1000 ∧ 0 ≤ v ∧ v < 2 ^ wd.toNat ∧ Q .non H
theorem scCkAddr : FnScope ["width", "address"] ["width", "address"] (defScope sCkAddr) := ⟨rfl, rfl, rfl, by decide +kernel, rfl, by decide +kernel, by decide +kernel⟩
theorem ok_ckAddr {f f1 f2 : Addr} {fd fd1 fd2 : FuncData} (A0 : At K mg "check_address" sCkAddr ["width", "address"] f fd) (A1 : At K mg "is_int" sIsInt ["value"] f1 fd1)
    (A2 : At K mg "is_address" sIsAddr ["width", "value"] f2 fd2) (T : Txt K mg) : FnOk P w K mg base CX0 3 f fd ["width", "address"] spCkAddr := by
  have G2 : FnOk P w K mg base CX0 2 f2 fd2 ["width", "value"] spIsAddr := ok_isAddr A2 A1 T
  refine A0.fn.ok scCkAddr (fun vs H Q E h => ?_) (fun cdv A outer s H vs Q E hr h => ?_)
  · obtain ⟨wd, v, rfl, _⟩ := h
    rfl
  · obtain ⟨wd, v, rfl, h0, h1, h2, h3, k⟩ := h
    refine ⟨_, pss_one (ps_if (pt_not (pt_val (pe_call G2 hr (by rfl) A2.mg A2.fn.kp A2.bi .nil pass0 (pa_cons (pv 0) (pa_cons (pv 1) pa_nil))))) (pss_one ps_never) pss_nil), ?_⟩
    refine ⟨_, rfl, _, rfl, wd, v, rfl, h0, h1, _, rfl, ?_⟩
    exact iteFb (by rw [decide_eq_true ⟨h2, h3⟩]; rfl) k
/-! ### parity -/
def spParity : Sp := fun vs H Q _ => ∃ n : Nat, vs = [.int (n : Int)] ∧ n < 2 ^ 2000 ∧ Q (.int (par n : Nat)) H
theorem pe_f1 {X : Cx} {e : Expr} {te : TE} {pos : Pos} (he : PE X e te) : PE X (.JoinedStr [e] pos) te := ⟨fun pins s σ H Q I h => PyProof.Rows.JoinedStr_one (he.run pins s σ H Q I h)⟩
theorem scParity : FnScope ["number", "digits"] ["number"] (defScope sParity) := ⟨rfl, rfl, rfl, by decide +kernel, rfl, by decide +kernel, by decide +kernel⟩
theorem ok_parity {f f1 : Addr} {fd fd1 : FuncData} (A0 : At K mg "parity" sParity ["number"] f fd) (A1 : At K mg "is_int" sIsInt ["value"] f1 fd1) (T : Txt K mg) : FnOk P w K mg base CX0 2 f fd ["number"] spParity := by
  have G1 : FnOk P w K mg base CX0 1 f1 fd1 ["value"] spIsInt := ok_isInt A1 T
  refine A0.fn.ok scParity (fun vs H Q E h => ?_) (fun cdv A outer s H vs Q E hr h => ?_)
  · obtain ⟨n, rfl, _⟩ := h
    rfl
  · obtain ⟨n, rfl, hn, k⟩ := h
    refine ⟨_, pss_cons (ps_if (PW.pt (pw_or (pt_not (pt_val (pe_call G1 hr (by rfl) A1.mg A1.fn.kp A1.bi .nil pass0 (pa_cons (pv 0) pa_nil)))) (pw_or1 (pt_cmpR op_lt (pv 0) pe_int (nomark _))))) (pss_one ps_never) pss_nil)
      (pss_cons (ps_set (i := 1) scParity.nd rfl (Or.inl rfl) (pe_f1 (G.pe_fmtB (pv 0))))
      (pss_one (ps_ret (pe_op op_and (pe_m1 PySem.F.slot_str_count PySem.F.type_str_count mt_count (pv 1) pe_str) pe_int)))), ?_⟩
    refine ⟨_, rfl, _, rfl, _, rfl, iteF ?_⟩
    refine ⟨_, rfl, _, _, rfl, rfl, _, rfl, ?_⟩
    refine iteFb (decide_eq_false (by omega)) ?_
    refine ⟨_, rfl, n, rfl, hn, ?_⟩
    refine ⟨_, rfl, ⟨_, rfl⟩, _, _, rfl, rfl, _, _, rfl, rfl, ?_⟩
    exact qv (by rw [cnt_bin]; show V.int (Builtin.bitAnd (pc n : Int) 1) = _; rw [PyProof.Rows.bitAnd_m1]; rfl) k
end
end X1.V
set_option Elab.async false
set_option maxRecDepth 100000
set_option maxHeartbeats 8000000
set_option pp.maxSteps 600
namespace X1.V
open PySem L2
open GF (pc par pc_0 pc_eq par_lt InS Can Red Orth)
/-- numbers as values -/
def nv (l : List Nat) : List V := l.map fun n : Nat => V.int (n : Int)
theorem nv_len (l : List Nat) : (nv l).length = l.length := List.length_map ..
theorem nv_at {l : List Nat} {i : Nat} {y : V} (h : (nv l)[i]? = some y) : ∃ n, l[i]? = some n ∧ y = .int (n : Int) ∧ i < l.length := by
  unfold nv at h
  rw [List.getElem?_map] at h
  cases e : l[i]? with
  | none =>
    rw [e] at h
    cases h
  | some m =>
    rw [e] at h
    cases h
    exact ⟨m, rfl, rfl, (List.getElem?_eq_some_iff.mp e).1⟩
theorem nv_of {sz : Int} {ns : List Int} (h : InW sz ns) : ∃ ms : List Nat, ns.map V.int = nv ms ∧ ms.length = ns.length ∧ ∀ m ∈ ms, m < 2 ^ sz.toNat := by
  refine ⟨ns.map Int.toNat, ?_, List.length_map .., fun m hm => ?_⟩
  · unfold nv
    rw [List.map_map]
    refine List.map_congr_left fun x hx => ?_
    show V.int x = V.int ((x.toNat : Nat) : Int)
    rw [Int.toNat_of_nonneg (h x hx).1]
  · obtain ⟨x, hx, rfl⟩ := List.mem_map.mp hm
    have := h x hx
    have e : ((2 ^ sz.toNat : Nat) : Int) = 2 ^ sz.toNat := by rw [Int.natCast_pow]; rfl
    omega
theorem nv_ints (l : List Nat) : nv l = (l.map fun n : Nat => (n : Int)).map V.int := by
  unfold nv
  rw [List.map_map]
  rfl
theorem min_cast (a b : Nat) : (if ((Builtin.bitXor (a : Int) (b : Int)) < (a : Int)) then Builtin.bitXor (a : Int) (b : Int) else (a : Int)) = ((min a (a ^^^ b) : Nat) : Int) := by
  rw [Bits.bitXor_pp (Int.natCast_nonneg a) (Int.natCast_nonneg b)]
  show (if ((a ^^^ b : Nat) : Int) < (a : Int) then ((a ^^^ b : Nat) : Int) else (a : Int)) = _
  split <;> omega
section
variable {P : Program} {w : World} {K : PySem.W.Frag} {mg : Str → Option Value} {base : Heap}
/-! ### remainder, of rows in a list -/
def spRem (K : PySem.W.Frag) : Sp := fun vs H Q _ => ∃ (p : Addr) (rs : List Nat) (v : Nat), vs = [.ref p, .int (v : Int)] ∧ SqL K H p (nv rs) ∧ Q (.int (GF.rem rs v : Nat)) H
theorem scRem : FnScope ["rows", "vector", "row"] ["rows", "vector"] (defScope sRem) := ⟨rfl, rfl, rfl, by decide +kernel, rfl, by decide +kernel, by decide +kernel⟩
theorem rem_next {rs : List Nat} {i r : Nat} (v : Nat) (h : rs[i]? = some r) : GF.rem (rs.take (i + 1)) v = min (GF.rem (rs.take i) v) (GF.rem (rs.take i) v ^^^ r) := by
  unfold GF.rem
  rw [List.take_add_one, h, List.foldl_append]
  rfl
theorem ok_rem {f : Addr} {fd : FuncData} (A0 : At K mg "remainder" sRem ["rows", "vector"] f fd) (T : Txt K mg) : FnOk P w K mg base CX0 1 f fd ["rows", "vector"] (spRem K) := by
  refine A0.fn.ok scRem (fun vs H Q E h => ?_) (fun cdv A outer s H vs Q E hr h => ?_)
  · obtain ⟨p, rs, v, rfl, _⟩ := h
    rfl
  · obtain ⟨p, rs, v, rfl, hp, k⟩ := h
    refine ⟨_, pss_cons (ps_for PassesOwn.never rfl (pi_list (pv 0)) (pg_name (i := 2) scRem.nd rfl (Or.inl rfl))
        (pss_one (ps_set (i := 1) scRem.nd rfl (Or.inl rfl) (pe_callB (call_min2 rfl) (by rfl) T.min (by decide +kernel) (pa_cons (pv 1) (pa_cons (pe_op op_xor (pv 1) (pv 2)) pa_nil))))))
      (pss_one (ps_ret (pv 1))), ?_⟩
    refine ⟨_, rfl, p, rfl, ⟨_, hp⟩, ?_⟩
    refine for_list (K := K) (a := p) (xs := nv rs) (fun i σ H' => ∃ t, σ = [some (.ref p), some (.int (GF.rem (rs.take i) v : Nat)), t] ∧ H' = H) ⟨none, rfl, rfl⟩ (fun i σ H' _ ⟨_, _, e⟩ => e ▸ hp) ?_ ?_
    · rintro i y σ H' hy ⟨t, rfl, rfl⟩
      obtain ⟨r, er, rfl, hi⟩ := nv_at hy
      refine ⟨_, rfl, _, rfl, _, rfl, _, _, rfl, rfl, _, _, rfl, ?_⟩
      refine ⟨some (.int (r : Int)), ?_, rfl⟩
      rw [rem_next v er, ← min_cast]
      rfl
    · rintro σ H' ⟨t, rfl, rfl⟩
      rw [nv_len, List.take_length]
      exact ⟨_, rfl, k⟩
def spRemT (K : PySem.W.Frag) : Sp := fun vs H Q _ => ∃ (p : Addr) (rs : List Nat) (v : Nat), vs = [.ref p, .int (v : Int)] ∧ SqT K H p (nv rs) ∧ Q (.int (GF.rem rs v : Nat)) H
theorem ok_remT {f : Addr} {fd : FuncData} (A0 : At K mg "remainder" sRem ["rows", "vector"] f fd) (T : Txt K mg) : FnOk P w K mg base CX0 1 f fd ["rows", "vector"] (spRemT K) := by
  refine A0.fn.ok scRem (fun vs H Q E h => ?_) (fun cdv A outer s H vs Q E hr h => ?_)
  · obtain ⟨p, rs, v, rfl, _⟩ := h
    rfl
  · obtain ⟨p, rs, v, rfl, hp, k⟩ := h
    refine ⟨_, pss_cons (ps_for PassesOwn.never rfl (pi_tup (pv 0)) (pg_name (i := 2) scRem.nd rfl (Or.inl rfl))
        (pss_one (ps_set (i := 1) scRem.nd rfl (Or.inl rfl) (pe_callB (call_min2 rfl) (by rfl) T.min (by decide +kernel) (pa_cons (pv 1) (pa_cons (pe_op op_xor (pv 1) (pv 2)) pa_nil))))))
      (pss_one (ps_ret (pv 1))), ?_⟩
    refine ⟨_, rfl, p, rfl, ⟨_, hp⟩, ?_⟩
    refine for_tup (K := K) (a := p) (xs := nv rs) (fun i σ H' => ∃ t, σ = [some (.ref p), some (.int (GF.rem (rs.take i) v : Nat)), t] ∧ H' = H) ⟨none, rfl, rfl⟩ (fun i σ H' _ ⟨_, _, e⟩ => e ▸ hp) ?_ ?_
    · rintro i y σ H' hy ⟨t, rfl, rfl⟩
      obtain ⟨r, er, rfl, hi⟩ := nv_at hy
      refine ⟨_, rfl, _, rfl, _, rfl, _, _, rfl, rfl, _, _, rfl, ?_⟩
      refine ⟨some (.int (r : Int)), ?_, rfl⟩
      rw [rem_next v er, ← min_cast]
      rfl
    · rintro σ H' ⟨t, rfl, rfl⟩
      rw [nv_len, List.take_length]
      exact ⟨_, rfl, k⟩
/-! ### reduced -/
theorem sort_nats {L' : List Int} {rs : List Nat} (p : L'.Perm (rs.map fun n : Nat => (n : Int))) (hs : L'.Pairwise (· ≤ ·)) : ∃ L : List Nat, L'.map V.int = nv L ∧ L.Perm rs ∧ L.Pairwise (· ≤ ·) := by
  have h0 : ∀ x ∈ L', 0 ≤ x := fun x hx => by
    obtain ⟨n, _, rfl⟩ := List.mem_map.mp (p.mem_iff.mp hx)
    exact Int.natCast_nonneg n
  refine ⟨L'.map Int.toNat, ?_, ?_, ?_⟩
  · unfold nv
    rw [List.map_map]
    refine List.map_congr_left fun x hx => ?_
    show V.int x = V.int ((x.toNat : Nat) : Int)
    rw [Int.toNat_of_nonneg (h0 x hx)]
  · have e : ∀ l : List Nat, (l.map fun n : Nat => (n : Int)).map Int.toNat = l := fun l => by
      induction l with
      | nil => rfl
      | cons a l ih =>
        rw [List.map_cons, List.map_cons, ih]
        rfl
    have := p.map Int.toNat
    rw [e] at this
    exact this
  · rw [List.pairwise_map]
    exact List.Pairwise.imp_of_mem (fun {a b} ha hb h => Int.toNat_le_toNat h) hs
def spRed (K : PySem.W.Frag) (tup : Bool) : Sp := fun vs H Q _ => ∃ (p : Addr) (vv : List Nat), vs = [.ref p] ∧ (if tup = true then SqT K H p (nv vv) else SqL K H p (nv vv)) ∧ vv.length ≤ 1000 ∧
  ∀ (q : Addr) (L : List Nat) (H' : Hp), H q = none → Same H H' → H' q = some (.tup (nv L)) → Can (InS vv) L → Red L → L.length ≤ vv.length → (∀ x, InS L x ↔ InS vv x) → Q (.ref q) H'
theorem scRed : FnScope ["vectors", "rows", "vector", "rest", "row"] ["vectors"] (defScope sRed) := ⟨rfl, rfl, rfl, by decide +kernel, rfl, by decide +kernel, by decide +kernel⟩
theorem red_next {vv : List Nat} {i v : Nat} (h : vv[i]? = some v) : GF.red0 (vv.take (i + 1)) = GF.step (GF.red0 (vv.take i)) v := by
  unfold GF.red0
  rw [List.take_add_one, h, List.foldl_append]
  rfl
theorem step_len (rows : List Nat) (v : Nat) : (GF.step rows v).length ≤ rows.length + 1 := by
  unfold GF.step
  split
  · rw [List.length_append, List.length_map]
    exact Nat.le_refl _
  · omega
theorem keep_new {H H1 : Hp} {p : Addr} {o : HO} (s : Same H H1) (hp : H1 p = none) : Same H (upd H1 p o) := fun c u e => by
  rw [upd_ne (ne_of_none (s c u e) hp)]
  exact s c u e
theorem new_at {H : Hp} {p q : Addr} {o u : HO} (h : H p = some o) (hq : H q = none) : upd H q u p = some o := by
  rw [upd_ne (ne_of_none h hq)]
  exact h
theorem sameT {K : PySem.W.Frag} {H H' : Hp} {a : Addr} {xs : List V} (e : Same H H') (h : SqT K H a xs) : SqT K H' a xs := by
  rcases h with (h | ⟨o, h⟩) | h
  · exact .inl (.inl (e _ _ h))
  · exact .inl (.inr ⟨o, e _ _ h⟩)
  · exact .inr h
theorem ok_redT {f f1 : Addr} {fd fd1 : FuncData} (A0 : At K mg "reduced" sRed ["vectors"] f fd) (A1 : At K mg "remainder" sRem ["rows", "vector"] f1 fd1) (T : Txt K mg) : FnOk P w K mg base CX0 2 f fd ["vectors"] (spRed K true) := by
  have G1 : FnOk P w K mg base CX0 1 f1 fd1 ["rows", "vector"] (spRem K) := ok_rem A1 T
  refine A0.fn.ok scRed (fun vs H Q E h => ?_) (fun cdv A outer s H vs Q E hr h => ?_)
  · obtain ⟨p, vv, rfl, _⟩ := h
    rfl
  · obtain ⟨p, vv, rfl, hp, hl, k⟩ := h
    have hp : SqT K H p (nv vv) := hp
    refine ⟨_, (pss_cons (ps_set (i := 1) scRed.nd rfl (Or.inl rfl) (pe_lst pa_nil))
      (pss_cons (ps_for PassesOwn.never rfl (pi_tup (pv 0)) (pg_name (i := 2) scRed.nd rfl (Or.inl rfl)) (pss_cons (ps_set (i := 3) scRed.nd rfl (Or.inr rfl) (pe_call G1 hr (by rfl) A1.mg A1.fn.kp A1.bi .nil pass0 (pa_cons (pv 1) (pa_cons (pv 2) pa_nil))))
      (pss_one (ps_if (pt_cmpR op_gt (pv 3) pe_int (nomark _)) (pss_cons (ps_setLc (i := 1) (own := [("row", 4)]) (g := gName 4) (tt := tYes) rfl scRed.nd rfl rfl (sw_true rfl rfl rfl (by decide +kernel)) (pi_list (pv 1)) (blkOk_by (N := ["vectors", "rows", "vector", "rest", "row"]) (sc := defScope sRed) (by decide +kernel)) (fun _ _ _ _ _ => pg_name (i := 4) scRed.nd rfl (Or.inl rfl)) (fun _ _ _ _ _ => pts_nil) (fun _ _ _ _ _ => pe_callB (call_min2 rfl) (by rfl) T.min (by decide +kernel) (pa_cons (pv 4) (pa_cons (pe_op op_xor (pv 4) (pv 3)) pa_nil))))
      (pss_one (ps_expr (pe_bm PySem.F.plainAttrs_list PySem.F.slot_list_append PySem.F.type_list_append mt_append (pv 1) (pa_cons (pv 3) pa_nil))))) pss_nil))))
      (pss_one (ps_ret (pe_callTy call_tuple_of (by rfl) T.tuple (by decide +kernel) (pa_cons (pe_callB cr_sortedI (by rfl) T.sorted (by decide +kernel) (pa_cons (pv 1) pa_nil)) pa_nil)))))), ?_⟩
    refine ⟨Nat.zero_le _, fun l hl0 => ?_⟩
    refine ⟨_, rfl, p, rfl, ⟨_, sameT (keep_new (Same.refl H) hl0) hp⟩, ?_⟩
    refine for_tup (K := K) (a := p) (xs := nv vv) (fun i σ H' => ∃ (l : Addr) (t2 t3 t4 : Option V), σ = [some (.ref p), some (.ref l), t2, t3, t4] ∧ Same H H' ∧ H l = none ∧ H' l = some (.lst (nv (GF.red0 (vv.take i)))) ∧ (GF.red0 (vv.take i)).length ≤ i)
      ⟨l, none, none, none, rfl, keep_new (Same.refl H) hl0, hl0, upd_same, Nat.le_refl _⟩ (fun i σ H' _ ⟨_, _, _, _, _, sm, _⟩ => sameT sm hp) ?_ ?_
    · rintro i y σ H1 hy ⟨l, t2, t3, t4, rfl, sm, nl, hl1, hlen⟩
      obtain ⟨v, ev, rfl, hi⟩ := nv_at hy
      have R := GF.red0_red (vv.take i)
      rw [red_next ev]
      refine ⟨_, rfl, _, rfl, l, _, v, rfl, SqL.of hl1, ?_⟩
      refine ⟨_, rfl, _, _, rfl, rfl, _, rfl, ?_⟩
      refine ite2 (fun hpos => ?_) (fun hpos => ?_)
      · have hpos : 0 < GF.rem (GF.red0 (vv.take i)) v := by
          have := of_decide_eq_true hpos
          omega
        refine ⟨_, rfl, l, rfl, ⟨_, SqL.of hl1⟩, fun D hD => ?_⟩
        have nlD : l ≠ D := ne_of_none hl1 hD
        refine lc_list (K := K) (a := l) (xs := nv (GF.red0 (vv.take i))) (fun j H' => (∀ c u, c ≠ D → H1 c = some u → H' c = some u) ∧ H' D = some (.lst (nv (((GF.red0 (vv.take i)).take j).map fun r => min r (r ^^^ GF.rem (GF.red0 (vv.take i)) v))))) ⟨fun c u n e => by rw [upd_ne n]; exact e, upd_same⟩ (fun j H' _ ⟨s1, _⟩ => SqL.of (s1 l _ nlD hl1)) ?_ ?_
        · rintro j x H2 hx ⟨s1, hd⟩
          obtain ⟨r, er, rfl, hj⟩ := nv_at hx
          refine ⟨rfl, yes (iteT ?_)⟩
          refine ⟨_, rfl, _, rfl, _, rfl, _, _, rfl, rfl, _, _, rfl, _, hd, ?_, ?_, ?_⟩
          · rw [nv_len, List.length_map, List.length_take]
            exact Nat.lt_of_le_of_lt (Nat.le_trans (Nat.min_le_left _ _) (Nat.le_trans (Nat.le_of_lt hj) (Nat.le_trans hlen (Nat.le_trans (Nat.le_of_lt hi) hl)))) (by decide)
          · exact fun c u n e => by rw [upd_ne n]; exact s1 c u n e
          · rw [upd_same, List.take_add_one, er, List.map_append]
            show some (HO.lst (nv _ ++ [V.int (if Builtin.bitXor (r : Int) _ < (r : Int) then _ else _)])) = _
            rw [min_cast]
            unfold nv
            rw [List.map_append]
            rfl
        · rintro H2 ⟨s1, hd⟩
          rw [nv_len, List.take_length] at hd
          have sm2 : Same H H2 := fun c u e => s1 c u (ne_of_none (sm c u e) hD) (sm c u e)
          have nD : H D = none := by
            cases e : H D with
            | none => rfl
            | some u =>
              rw [sm _ _ e] at hD
              cases hD
          refine ⟨_, rfl, .inl ⟨rfl, _, SqL.of hd⟩, _, rfl, D, _, _, rfl, rfl, hd, ?_, ?_⟩
          · rw [nv_len, List.length_map]
            exact Nat.lt_of_le_of_lt (Nat.le_trans hlen (Nat.le_trans (Nat.le_of_lt hi) hl)) (by decide)
          · refine ⟨D, _, _, _, rfl, fun c u e => ?_, nD, ?_, ?_⟩
            · rw [upd_ne (ne_of_none e nD)]
              exact sm2 c u e
            · rw [upd_same]
              unfold GF.step
              rw [if_pos hpos]
              unfold nv
              rw [List.map_append]
              rfl
            · exact Nat.le_trans (step_len _ _) (Nat.succ_le_succ hlen)
      · have hz : ¬ 0 < GF.rem (GF.red0 (vv.take i)) v := fun z => hpos (decide_eq_true (by omega))
        refine ⟨l, _, _, _, rfl, sm, nl, ?_, ?_⟩
        · unfold GF.step
          rw [if_neg hz]
          exact hl1
        · exact Nat.le_trans (step_len _ _) (Nat.succ_le_succ hlen)
    · rintro σ H1 ⟨l, t2, t3, t4, rfl, sm, nl, hl1, hlen⟩
      rw [nv_len, List.take_length] at hl1 hlen
      refine ⟨_, rfl, l, _, rfl, SqL.of (by rw [← nv_ints]; exact hl1), fun L' q pm hs hq => ?_⟩
      obtain ⟨L, eL, pL, sL⟩ := sort_nats pm hs
      obtain ⟨C, RL⟩ := GF.sorted_can pL sL
      refine ⟨q, _, rfl, .inl ⟨SqL.of upd_same, fun t ht => ?_⟩⟩
      have smq := keep_new (o := .lst (L'.map V.int)) sm hq
      have nt : H t = none := by
        cases e : H t with
        | none => rfl
        | some u =>
          rw [smq _ _ e] at ht
          cases ht
      exact k t L _ nt (keep_new smq ht) (by rw [upd_same, eL]) C RL (by rw [pL.length_eq]; exact hlen) fun x => (GF.span_perm pL x).trans (GF.red0_span vv x)
theorem ok_redL {f f1 : Addr} {fd fd1 : FuncData} (A0 : At K mg "reduced" sRed ["vectors"] f fd) (A1 : At K mg "remainder" sRem ["rows", "vector"] f1 fd1) (T : Txt K mg) : FnOk P w K mg base CX0 2 f fd ["vectors"] (spRed K false) := by
  have G1 : FnOk P w K mg base CX0 1 f1 fd1 ["rows", "vector"] (spRem K) := ok_rem A1 T
  refine A0.fn.ok scRed (fun vs H Q E h => ?_) (fun cdv A outer s H vs Q E hr h => ?_)
  · obtain ⟨p, vv, rfl, _⟩ := h
    rfl
  · obtain ⟨p, vv, rfl, hp, hl, k⟩ := h
    have hp : SqL K H p (nv vv) := hp
    refine ⟨_, (pss_cons (ps_set (i := 1) scRed.nd rfl (Or.inl rfl) (pe_lst pa_nil))
      (pss_cons (ps_for PassesOwn.never rfl (pi_list (pv 0)) (pg_name (i := 2) scRed.nd rfl (Or.inl rfl)) (pss_cons (ps_set (i := 3) scRed.nd rfl (Or.inr rfl) (pe_call G1 hr (by rfl) A1.mg A1.fn.kp A1.bi .nil pass0 (pa_cons (pv 1) (pa_cons (pv 2) pa_nil))))
      (pss_one (ps_if (pt_cmpR op_gt (pv 3) pe_int (nomark _)) (pss_cons (ps_setLc (i := 1) (own := [("row", 4)]) (g := gName 4) (tt := tYes) rfl scRed.nd rfl rfl (sw_true rfl rfl rfl (by decide +kernel)) (pi_list (pv 1)) (blkOk_by (N := ["vectors", "rows", "vector", "rest", "row"]) (sc := defScope sRed) (by decide +kernel)) (fun _ _ _ _ _ => pg_name (i := 4) scRed.nd rfl (Or.inl rfl)) (fun _ _ _ _ _ => pts_nil) (fun _ _ _ _ _ => pe_callB (call_min2 rfl) (by rfl) T.min (by decide +kernel) (pa_cons (pv 4) (pa_cons (pe_op op_xor (pv 4) (pv 3)) pa_nil))))
      (pss_one (ps_expr (pe_bm PySem.F.plainAttrs_list PySem.F.slot_list_append PySem.F.type_list_append mt_append (pv 1) (pa_cons (pv 3) pa_nil))))) pss_nil))))
      (pss_one (ps_ret (pe_callTy call_tuple_of (by rfl) T.tuple (by decide +kernel) (pa_cons (pe_callB cr_sortedI (by rfl) T.sorted (by decide +kernel) (pa_cons (pv 1) pa_nil)) pa_nil)))))), ?_⟩
    refine ⟨Nat.zero_le _, fun l hl0 => ?_⟩
    refine ⟨_, rfl, p, rfl, ⟨_, Same.seq (keep_new (Same.refl H) hl0) hp⟩, ?_⟩
    refine for_list (K := K) (a := p) (xs := nv vv) (fun i σ H' => ∃ (l : Addr) (t2 t3 t4 : Option V), σ = [some (.ref p), some (.ref l), t2, t3, t4] ∧ Same H H' ∧ H l = none ∧ H' l = some (.lst (nv (GF.red0 (vv.take i)))) ∧ (GF.red0 (vv.take i)).length ≤ i)
      ⟨l, none, none, none, rfl, keep_new (Same.refl H) hl0, hl0, upd_same, Nat.le_refl _⟩ (fun i σ H' _ ⟨_, _, _, _, _, sm, _⟩ => Same.seq sm hp) ?_ ?_
    · rintro i y σ H1 hy ⟨l, t2, t3, t4, rfl, sm, nl, hl1, hlen⟩
      obtain ⟨v, ev, rfl, hi⟩ := nv_at hy
      have R := GF.red0_red (vv.take i)
      rw [red_next ev]
      refine ⟨_, rfl, _, rfl, l, _, v, rfl, SqL.of hl1, ?_⟩
      refine ⟨_, rfl, _, _, rfl, rfl, _, rfl, ?_⟩
      refine ite2 (fun hpos => ?_) (fun hpos => ?_)
      · have hpos : 0 < GF.rem (GF.red0 (vv.take i)) v := by
          have := of_decide_eq_true hpos
          omega
        refine ⟨_, rfl, l, rfl, ⟨_, SqL.of hl1⟩, fun D hD => ?_⟩
        have nlD : l ≠ D := ne_of_none hl1 hD
        refine lc_list (K := K) (a := l) (xs := nv (GF.red0 (vv.take i))) (fun j H' => (∀ c u, c ≠ D → H1 c = some u → H' c = some u) ∧ H' D = some (.lst (nv (((GF.red0 (vv.take i)).take j).map fun r => min r (r ^^^ GF.rem (GF.red0 (vv.take i)) v))))) ⟨fun c u n e => by rw [upd_ne n]; exact e, upd_same⟩ (fun j H' _ ⟨s1, _⟩ => SqL.of (s1 l _ nlD hl1)) ?_ ?_
        · rintro j x H2 hx ⟨s1, hd⟩
          obtain ⟨r, er, rfl, hj⟩ := nv_at hx
          refine ⟨rfl, yes (iteT ?_)⟩
          refine ⟨_, rfl, _, rfl, _, rfl, _, _, rfl, rfl, _, _, rfl, _, hd, ?_, ?_, ?_⟩
          · rw [nv_len, List.length_map, List.length_take]
            exact Nat.lt_of_le_of_lt (Nat.le_trans (Nat.min_le_left _ _) (Nat.le_trans (Nat.le_of_lt hj) (Nat.le_trans hlen (Nat.le_trans (Nat.le_of_lt hi) hl)))) (by decide)
          · exact fun c u n e => by rw [upd_ne n]; exact s1 c u n e
          · rw [upd_same, List.take_add_one, er, List.map_append]
            show some (HO.lst (nv _ ++ [V.int (if Builtin.bitXor (r : Int) _ < (r : Int) then _ else _)])) = _
            rw [min_cast]
            unfold nv
            rw [List.map_append]
            rfl
        · rintro H2 ⟨s1, hd⟩
          rw [nv_len, List.take_length] at hd
          have sm2 : Same H H2 := fun c u e => s1 c u (ne_of_none (sm c u e) hD) (sm c u e)
          have nD : H D = none := by
            cases e : H D with
            | none => rfl
            | some u =>
              rw [sm _ _ e] at hD
              cases hD
          refine ⟨_, rfl, .inl ⟨rfl, _, SqL.of hd⟩, _, rfl, D, _, _, rfl, rfl, hd, ?_, ?_⟩
          · rw [nv_len, List.length_map]
            exact Nat.lt_of_le_of_lt (Nat.le_trans hlen (Nat.le_trans (Nat.le_of_lt hi) hl)) (by decide)
          · refine ⟨D, _, _, _, rfl, fun c u e => ?_, nD, ?_, ?_⟩
            · rw [upd_ne (ne_of_none e nD)]
              exact sm2 c u e
            · rw [upd_same]
              unfold GF.step
              rw [if_pos hpos]
              unfold nv
              rw [List.map_append]
              rfl
            · exact Nat.le_trans (step_len _ _) (Nat.succ_le_succ hlen)
      · have hz : ¬ 0 < GF.rem (GF.red0 (vv.take i)) v := fun z => hpos (decide_eq_true (by omega))
        refine ⟨l, _, _, _, rfl, sm, nl, ?_, ?_⟩
        · unfold GF.step
          rw [if_neg hz]
          exact hl1
        · exact Nat.le_trans (step_len _ _) (Nat.succ_le_succ hlen)
    · rintro σ H1 ⟨l, t2, t3, t4, rfl, sm, nl, hl1, hlen⟩
      rw [nv_len, List.take_length] at hl1 hlen
      refine ⟨_, rfl, l, _, rfl, SqL.of (by rw [← nv_ints]; exact hl1), fun L' q pm hs hq => ?_⟩
      obtain ⟨L, eL, pL, sL⟩ := sort_nats pm hs
      obtain ⟨C, RL⟩ := GF.sorted_can pL sL
      refine ⟨q, _, rfl, .inl ⟨SqL.of upd_same, fun t ht => ?_⟩⟩
      have smq := keep_new (o := .lst (L'.map V.int)) sm hq
      have nt : H t = none := by
        cases e : H t with
        | none => rfl
        | some u =>
          rw [smq _ _ e] at ht
          cases ht
      exact k t L _ nt (keep_new smq ht) (by rw [upd_same, eL]) C RL (by rw [pL.length_eq]; exact hlen) fun x => (GF.span_perm pL x).trans (GF.red0_span vv x)
end
end X1.V
set_option Elab.async false
set_option maxRecDepth 100000
set_option maxHeartbeats 8000000
set_option pp.maxSteps 600
namespace X1.VK
open X1.V
open PySem L2
open GF (pc par pc_0 pc_eq par_lt InS Can Red Orth mk isFree)
theorem bits_of {n : Nat} (h : n ≠ 0) : Builtin.Int.intBits (n : Int) = n.log2 + 1 := by
  unfold Builtin.Int.intBits
  rw [if_neg (by simpa using h)]
  rfl
theorem pow_cast (k : Nat) : ((2 ^ k : Nat) : Int) = 2 ^ k := by rw [Int.natCast_pow]; rfl
theorem sum_cast : ∀ l : List Nat, (l.map fun n : Nat => (n : Int)).sum = ((l.sum : Nat) : Int)
  | [] => rfl
  | n :: l => by rw [List.map_cons, List.sum_cons, List.sum_cons, sum_cast l, Int.natCast_add]
theorem in_nv (b : Nat) : ∀ l : List Nat, inV (.int (b : Int)) (nv l) = l.any (· == b)
  | [] => rfl
  | n :: l => by
    show (eqV (.int (n : Int)) (.int (b : Int)) || inV (.int (b : Int)) (nv l)) = ((n == b) || l.any (· == b))
    rw [in_nv b l]
    congr 1
    show ((n : Int) == (b : Int)) = (n == b)
    rw [Bool.eq_iff_iff, beq_iff_eq, beq_iff_eq]
    omega
theorem flat_nv : ∀ l : List Nat, (nv l).all flatV = true
  | [] => rfl
  | n :: l => flat_nv l
def fr (L : List Nat) (j : Nat) : Bool := !((L.map fun r => 2 ^ r.log2).any (· == 2 ^ j))
/-- row & bit, as a test -/
def tBitT (K : PySem.W.Frag) (i j : Nat) : TT := fun σ H Q => tOp (rI0 fun i j => .int (Builtin.bitAnd i j)) (tVar i) (tVar j) σ H fun x H' => ∃ k, TruV K x H' k ∧ Q k H'
theorem fr_iff (L : List Nat) (j : Nat) : fr L j = true ↔ isFree L j := by
  unfold fr isFree
  rw [Bool.not_eq_true', List.any_eq_false]
  constructor
  · intro h r hr e
    exact h (2 ^ r.log2) (List.mem_map.mpr ⟨r, hr, rfl⟩) (by rw [e]; exact beq_self_eq_true _)
  · rintro h x hx e
    obtain ⟨r, hr, rfl⟩ := List.mem_map.mp hx
    have e := beq_iff_eq.mp e
    have e2 := congrArg Nat.log2 e
    rw [Nat.log2_two_pow, Nat.log2_two_pow] at e2
    exact h r hr e2
theorem and_ne (r j : Nat) : (((r &&& 2 ^ j : Nat) : Int) != 0) = r.testBit j := by
  rw [GF.and_pow]
  cases h : r.testBit j
  · rfl
  · have := Nat.two_pow_pos j
    rw [if_pos rfl, bne_iff_ne]
    omega
section
variable {P : Program} {w : World} {K : PySem.W.Frag} {mg : Str → Option Value} {base : Heap}
/-! ### highest_bit -/
def spHb : Sp := fun vs H Q _ => ∃ n : Nat, vs = [.int (n : Int)] ∧ n ≠ 0 ∧ n < 2 ^ 1000 ∧ Q (.int ((2 ^ n.log2 : Nat) : Int)) H
theorem scHb : FnScope ["number"] ["number"] (defScope sHb) := ⟨rfl, rfl, rfl, by decide +kernel, rfl, by decide +kernel, by decide +kernel⟩
theorem ok_hb {f : Addr} {fd : FuncData} (A0 : At K mg "highest_bit" sHb ["number"] f fd) : FnOk P w K mg base CX0 1 f fd ["number"] spHb := by
  refine A0.fn.ok scHb (fun vs H Q E h => ?_) (fun cdv A outer s H vs Q E hr h => ?_)
  · obtain ⟨n, rfl, _⟩ := h
    rfl
  · obtain ⟨n, rfl, h0, h1, k⟩ := h
    refine ⟨_, pss_one (ps_ret (pe_op op_shl pe_int (pe_op op_sub (pe_bits (pv 0)) pe_int))), ?_⟩
    have hb := bits_of h0
    have hl : n.log2 < 1000 := (Nat.log2_lt h0).mpr h1
    refine ⟨_, rfl, _, rfl, _, _, rfl, rfl, _, _, rfl, rfl, ⟨?_, ?_, by decide⟩, ?_⟩
    · rw [hb]
      omega
    · rw [hb]
      omega
    · refine qv ?_ k
      show V.int (1 * 2 ^ ((((Builtin.Int.intBits (n : Int)) : Nat) : Int) - 1).toNat) = _
      rw [hb, Int.one_mul, show (((n.log2 + 1 : Nat) : Int) - 1).toNat = n.log2 by omega, pow_cast]
/-! ### powers -/
def spPowers : Sp := fun vs H Q _ => ∃ wd : Nat, vs = [.int (wd : Int)] ∧ wd ≤ 64 ∧ ∀ (D : Addr) (H' : Hp), H D = none → Same H H' → H' D = some (.lst (nv ((List.range wd).map (2 ^ ·)))) → Q (.ref D) H'
theorem scPowers : FnScope ["width", "index"] ["width"] (defScope sPowers) := ⟨rfl, rfl, rfl, by decide +kernel, rfl, by decide +kernel, by decide +kernel⟩
theorem ok_powers {f : Addr} {fd : FuncData} (A0 : At K mg "powers" sPowers ["width"] f fd) (T : Txt K mg) : FnOk P w K mg base CX0 1 f fd ["width"] spPowers := by
  refine A0.fn.ok scPowers (fun vs H Q E h => ?_) (fun cdv A outer s H vs Q E hr h => ?_)
  · obtain ⟨n, rfl, _⟩ := h
    rfl
  · obtain ⟨wd, rfl, h1, k⟩ := h
    refine ⟨_, pss_one (ps_ret (pe_lc (own := [("index", 1)]) (g := gName 1) (tt := tYes) rfl scPowers.nd (pi_range1 (by rfl) T.range (pa_cons (pv 0) pa_nil)) (blkOk_by (N := ["width", "index"]) (sc := defScope sPowers) (by decide +kernel)) (fun _ _ _ _ _ => pg_name (i := 1) scPowers.nd rfl (Or.inl rfl)) (fun _ _ _ _ _ => pts_nil) (fun _ _ _ _ _ => pe_op op_shl pe_int (pv 1)))), ?_⟩
    refine ⟨_, rfl, _, rfl, by omega, by omega, fun D hD => ?_⟩
    refine lc_range (lo := 0) (n := wd) (fun i H' => (∀ c u, c ≠ D → H c = some u → H' c = some u) ∧ H' D = some (.lst (nv ((List.range i).map (2 ^ ·))))) ⟨fun c u n e => by rw [upd_ne n]; exact e, upd_same⟩ ?_ ?_
    · rintro i H1 hi ⟨s1, hd⟩
      refine ⟨rfl, yes (iteT ?_)⟩
      refine ⟨_, rfl, _, _, rfl, rfl, ⟨by omega, by omega, by decide⟩, _, hd, ?_, ?_, ?_⟩
      · rw [nv_len, List.length_map, List.length_range]
        exact Nat.lt_of_lt_of_le hi (Nat.le_trans h1 (by decide))
      · exact fun c u n e => by rw [upd_ne n]; exact s1 c u n e
      · rw [upd_same, List.range_succ, List.map_append]
        show some (HO.lst (nv _ ++ [V.int (1 * 2 ^ ((0 : Int) + (i : Int)).toNat)])) = _
        rw [Int.one_mul, show ((0 : Int) + (i : Int)).toNat = i by omega, ← pow_cast]
        unfold nv
        rw [List.map_append]
        rfl
    · rintro H1 ⟨s1, hd⟩
      exact k D H1 hD (fun c u e => s1 c u (ne_of_none e hD) e) hd
/-! ### orthogonal -/
def spOrth (K : PySem.W.Frag) : Sp := fun vs H Q _ => ∃ (wd : Nat) (p : Addr) (vv : List Nat), vs = [.int (wd : Int), .ref p] ∧ wd ≤ 16 ∧ SqT K H p (nv vv) ∧ vv.length ≤ 64 ∧ (∀ v ∈ vv, v < 2 ^ wd) ∧
  ∀ (q : Addr) (A : List Nat) (H' : Hp), Same H H' → H' q = some (.tup (nv A)) → Can (fun m => m < 2 ^ wd ∧ Orth vv m) A → Red A → (∀ m, InS A m ↔ m < 2 ^ wd ∧ Orth vv m) → A.length ≤ 16 → Q (.ref q) H'
theorem scOrth : FnScope ["width", "vectors", "rows", "leading", "masks", "bit", "row"] ["width", "vectors"] (defScope sOrth) := ⟨rfl, rfl, rfl, by decide +kernel, rfl, by decide +kernel, by decide +kernel⟩
theorem ok_orth {f f1 f2 f3 f4 : Addr} {fd fd1 fd2 fd3 fd4 : FuncData} (A0 : At K mg "orthogonal" sOrth ["width", "vectors"] f fd) (AM : At K mg "remainder" sRem ["rows", "vector"] f1 fd1) (AR : At K mg "reduced" sRed ["vectors"] f2 fd2)
    (AH : At K mg "highest_bit" sHb ["number"] f3 fd3) (AP : At K mg "powers" sPowers ["width"] f4 fd4) (T : Txt K mg) : FnOk P w K mg base CX0 3 f fd ["width", "vectors"] (spOrth K) := by
  have GT : FnOk P w K mg base CX0 2 f2 fd2 ["vectors"] (spRed K true) := ok_redT AR AM T
  have GL : FnOk P w K mg base CX0 2 f2 fd2 ["vectors"] (spRed K false) := ok_redL AR AM T
  have GH : FnOk P w K mg base CX0 1 f3 fd3 ["number"] spHb := ok_hb AH
  have GP : FnOk P w K mg base CX0 1 f4 fd4 ["width"] spPowers := ok_powers AP T
  refine A0.fn.ok scOrth (fun vs H Q E h => ?_) (fun cdv A outer s H vs Q E hr h => ?_)
  · obtain ⟨wd, p, vv, rfl, _⟩ := h
    rfl
  · obtain ⟨wd, p, vv, rfl, h16, hp, hl, hin, k⟩ := h
    have hr1 : Room 1 _ := hr.mono (by decide)
    have hr2 : Room 2 _ := hr
    refine ⟨_, (pss_cons (ps_set (i := 2) scOrth.nd rfl (Or.inl rfl) (pe_call GT hr2 (by rfl) AR.mg AR.fn.kp AR.bi .nil pass0 (pa_cons (pv 1) pa_nil)))
      (pss_cons (ps_setLc (i := 3) (own := [("row", 6)]) (g := gName 6) (tt := tYes) rfl scOrth.nd rfl rfl (sw_true rfl rfl rfl (by decide +kernel)) (pi_tup (pv 2)) (blkOk_by (N := ["width", "vectors", "rows", "leading", "masks", "bit", "row"]) (sc := defScope sOrth) (by decide +kernel)) (fun _ _ _ _ _ => pg_name (i := 6) scOrth.nd rfl (Or.inl rfl)) (fun _ _ _ _ _ => pts_nil) (fun _ _ _ _ _ => (pe_call GH hr1 (by rfl) AH.mg AH.fn.kp AH.bi .nil pass0 (pa_cons (pv 6) pa_nil))))
      (pss_cons (ps_set (i := 4) scOrth.nd rfl (Or.inl rfl) (pe_lst pa_nil))
      (pss_cons (ps_for PassesOwn.never rfl (pi_list (pe_call GP hr1 (by rfl) AP.mg AP.fn.kp AP.bi .nil pass0 (pa_cons (pv 0) pa_nil))) (pg_name (i := 5) scOrth.nd rfl (Or.inr rfl)) (pss_one (ps_if (pt_cmpR op_notIn_seq (pv 5) (pv 3) (by rfl)) (pss_one (ps_expr (pe_bm PySem.F.plainAttrs_list PySem.F.slot_list_append PySem.F.type_list_append mt_append (pv 4) (pa_cons (pe_op op_add (pv 5) (pe_callB (cr_sum rfl) (by rfl) T.sum (by decide +kernel) (pa_cons (pe_lc (own := [("row", 6)]) (g := gName 6) (tt := tBitT K 6 5) rfl scOrth.nd (pi_tup (pv 2)) (blkOk_by (N := ["width", "vectors", "rows", "leading", "masks", "bit", "row"]) (sc := defScope sOrth) (by decide +kernel)) (fun _ _ _ _ _ => pg_name (i := 6) scOrth.nd rfl (Or.inl rfl)) (fun _ _ _ _ _ => by exact pts_one (pt_truth (pe_op op_and (pv 6) (pv 5)) (by intro _; rfl))) (fun _ _ _ _ _ => (pe_call GH hr1 (by rfl) AH.mg AH.fn.kp AH.bi .nil pass0 (pa_cons (pv 6) pa_nil)))) pa_nil))) pa_nil)))) pss_nil)))
      (pss_one (ps_ret (pe_call GL hr2 (by rfl) AR.mg AR.fn.kp AR.bi .nil pass0 (pa_cons (pv 4) pa_nil)))))))), ?_⟩
    refine ⟨_, rfl, p, vv, rfl, hp, by omega, fun q L H1 nq sm1 hq CL RL lL sL => ?_⟩
    have hw : ∀ r ∈ L, r < 2 ^ wd := fun r hr => GF.ins_lt hin ((sL r).mp (GF.ins_mem hr))
    have hbig : ∀ r ∈ L, r < 2 ^ 1000 := fun r hr => Nat.lt_of_lt_of_le (hw r hr) (Nat.pow_le_pow_right (by decide) (by omega))
    -- the leading bits
    refine ⟨_, rfl, q, rfl, ⟨_, SqT.of hq⟩, fun D hD => ?_⟩
    have nqD : q ≠ D := ne_of_none hq hD
    refine lc_tup (K := K) (a := q) (xs := nv L) (fun j H' => (∀ c u, c ≠ D → H1 c = some u → H' c = some u) ∧ H' D = some (.lst (nv ((L.take j).map fun r => 2 ^ r.log2)))) ⟨fun c u n e => by rw [upd_ne n]; exact e, upd_same⟩ (fun j H' _ ⟨s1, _⟩ => SqT.of (s1 q _ nqD hq)) ?_ ?_
    · rintro j x H2 hx ⟨s1, hd⟩
      obtain ⟨r, er, rfl, hj⟩ := nv_at hx
      have hrm := List.mem_of_getElem? er
      refine ⟨rfl, yes (iteT ?_)⟩
      refine ⟨_, rfl, r, rfl, RL.pos r hrm, hbig r hrm, _, hd, ?_, ?_, ?_⟩
      · rw [nv_len, List.length_map, List.length_take]
        exact Nat.lt_of_le_of_lt (Nat.le_trans (Nat.min_le_left _ _) (Nat.le_trans (Nat.le_of_lt hj) (Nat.le_trans lL hl))) (by decide)
      · exact fun c u n e => by rw [upd_ne n]; exact s1 c u n e
      · rw [upd_same, List.take_add_one, er, List.map_append]
        unfold nv
        rw [List.map_append]
        rfl
    · rintro H2 ⟨s1, hd⟩
      rw [nv_len, List.take_length] at hd
      have sm2 : Same H1 H2 := fun c u e => s1 c u (ne_of_none e hD) e
      refine ⟨Nat.zero_le _, fun M hM => ?_⟩
      have sm3 : Same H2 (upd H2 M (.lst [])) := keep_new (Same.refl H2) hM
      refine ⟨_, rfl, wd, rfl, by omega, fun B H3 nB sm4 hB => ?_⟩
      have hM3 : H3 M = some (.lst []) := sm4 _ _ upd_same
      have nM : H M = none := by
        cases e : H M with
        | none => rfl
        | some u =>
          rw [sm2 _ _ (sm1 _ _ e)] at hM
          cases hM
      have nBM : B ≠ M := (ne_of_none (H := upd H2 M (.lst [])) upd_same nB).symm
      have nqM : q ≠ M := ne_of_none (sm2 _ _ hq) hM
      have nDM : D ≠ M := ne_of_none hd hM
      have hq3 := sm4 _ _ (sm3 _ _ (sm2 _ _ hq))
      have hd3 := sm4 _ _ (sm3 _ _ hd)
      refine ⟨B, rfl, ⟨_, SqL.of hB⟩, ?_⟩
      refine for_list (K := K) (a := B) (xs := nv ((List.range wd).map (2 ^ ·))) (fun i σ H' => ∃ t5 t6, σ = [some (.int (wd : Int)), some (.ref p), some (.ref q), some (.ref D), some (.ref M), t5, t6] ∧ (∀ c u, c ≠ M → H3 c = some u → H' c = some u) ∧ H' M = some (.lst (nv (((List.range i).filter (fr L)).map (mk L)))))
        ⟨none, none, rfl, fun c u _ e => e, hM3⟩ (fun i σ H' _ ⟨_, _, _, s5, _⟩ => SqL.of (s5 B _ nBM hB)) ?_ ?_
      · rintro i y σ H4 hy ⟨t5, t6, rfl, s5, hM4⟩
        obtain ⟨n, en, rfl, hi⟩ := nv_at hy
        rw [List.length_map, List.length_range] at hi
        rw [List.getElem?_map, List.getElem?_range hi] at en
        cases en
        have hq4 := s5 q _ nqM hq3
        have hd4 := s5 D _ nDM hd3
        have hfl : (((List.range i).filter (fr L)).map (mk L)).length ≤ 16 := by
          rw [List.length_map]
          refine Nat.le_trans (List.length_filter_le _ _) ?_
          rw [List.length_range]
          omega
        refine ⟨_, rfl, _, rfl, D, _, rfl, .inl (SqL.of hd4), rfl, flat_nv _, _, rfl, ?_⟩
        by_cases hf : fr L i = true
        · refine iteTb ?_ ?_
          · show (!inV (.int ((2 ^ i : Nat) : Int)) (nv (L.map fun r => 2 ^ r.log2))) = true
            rw [in_nv]
            exact hf
          have hfree := (fr_iff L i).mp hf
          refine ⟨_, rfl, .inl ⟨rfl, _, SqL.of hM4⟩, _, rfl, _, rfl, q, rfl, ⟨_, SqT.of hq4⟩, fun E hE => ?_⟩
          have nqE : q ≠ E := ne_of_none hq4 hE
          have nME : M ≠ E := ne_of_none hM4 hE
          refine lc_tup (K := K) (a := q) (xs := nv L) (fun t H' => (∀ c u, c ≠ E → H4 c = some u → H' c = some u) ∧ H' E = some (.lst (nv (((L.take t).filter fun r => r.testBit i).map fun r => 2 ^ r.log2)))) ⟨fun c u n e => by rw [upd_ne n]; exact e, upd_same⟩ (fun t H' _ ⟨s6, _⟩ => SqT.of (s6 q _ nqE hq4)) ?_ ?_
          · rintro t x H5 hx ⟨s6, he⟩
            obtain ⟨r, er, rfl, ht⟩ := nv_at hx
            have hrm := List.mem_of_getElem? er
            refine ⟨rfl, ?_⟩
            refine ⟨_, rfl, _, rfl, _, _, rfl, rfl, r.testBit i, ?_, ?_⟩
            · show r.testBit i = (Builtin.bitAnd (r : Int) ((2 ^ i : Nat) : Int) != 0)
              rw [PyProof.Rows.bitAnd_pp (Int.natCast_nonneg _) (Int.natCast_nonneg _)]
              exact (and_ne r i).symm
            · refine ite2 (fun hb => ?_) (fun hb => ?_)
              · refine ⟨_, rfl, r, rfl, RL.pos r hrm, hbig r hrm, _, he, ?_, ?_, ?_⟩
                · rw [nv_len, List.length_map]
                  refine Nat.lt_of_le_of_lt (List.length_filter_le _ _) ?_
                  rw [List.length_take]
                  exact Nat.lt_of_le_of_lt (Nat.le_trans (Nat.min_le_left _ _) (Nat.le_trans (Nat.le_of_lt ht) (Nat.le_trans lL hl))) (by decide)
                · exact fun c u n e => by rw [upd_ne n]; exact s6 c u n e
                · rw [upd_same, List.take_add_one, er, List.filter_append, List.map_append]
                  unfold nv
                  rw [List.map_append]
                  show some (HO.lst (_ ++ [V.int ((2 ^ r.log2 : Nat) : Int)])) = some (HO.lst (_ ++ List.map _ (List.map _ (List.filter _ [r]))))
                  rw [List.filter_cons, if_pos hb]
                  rfl
              · refine ⟨s6, ?_⟩
                rw [he, List.take_add_one, er, List.filter_append, List.map_append]
                show _ = some (HO.lst (nv (_ ++ List.map _ (List.filter _ [r]))))
                rw [List.filter_cons, if_neg hb]
                show _ = some (HO.lst (nv (_ ++ [])))
                rw [List.append_nil]
          · rintro H5 ⟨s6, he⟩
            rw [nv_len, List.take_length] at he
            refine ⟨E, _, rfl, SqL.of (by rw [← nv_ints]; exact he), _, _, rfl, rfl, M, _, _, rfl, rfl, s6 M _ nME hM4, ?_, ?_⟩
            · rw [nv_len]
              exact Nat.lt_of_le_of_lt hfl (by decide)
            · refine ⟨_, _, rfl, fun c u n e => ?_, ?_⟩
              · rw [upd_ne n]
                exact s6 c u (ne_of_none (s5 c u n e) hE) (s5 c u n e)
              · rw [upd_same, List.range_succ, List.filter_append, List.map_append, sum_cast]
                unfold nv
                rw [List.map_append]
                show some (HO.lst (_ ++ [V.int (((2 ^ i : Nat) : Int) + _)])) = some (HO.lst (_ ++ List.map _ (List.map _ (List.filter _ [i]))))
                rw [List.filter_cons, if_pos hf]
                rfl
        · refine iteFb ?_ ?_
          · show (!inV (.int ((2 ^ i : Nat) : Int)) (nv (L.map fun r => 2 ^ r.log2))) = false
            rw [in_nv]
            exact Bool.eq_false_iff.mpr hf
          refine ⟨_, _, rfl, s5, ?_⟩
          rw [hM4, List.range_succ, List.filter_append, List.map_append]
          show _ = some (HO.lst (nv (_ ++ List.map _ (List.filter _ [i]))))
          rw [List.filter_cons, if_neg hf]
          show _ = some (HO.lst (nv (_ ++ [])))
          rw [List.append_nil]
      · rintro σ H4 ⟨t5, t6, rfl, s5, hM4⟩
        rw [nv_len, List.length_map, List.length_range] at hM4
        have sp := GF.masks_span RL hw (js := (List.range wd).filter (fr L)) fun j => by
          rw [List.mem_filter, List.mem_range, fr_iff]
        have so := GF.orth_span sL
        refine ⟨_, rfl, M, _, rfl, SqL.of hM4, ?_, fun z A H5 _ sm5 hz CA RA lA sA => ?_⟩
        · rw [List.length_map]
          refine Nat.le_trans (List.length_filter_le _ _) ?_
          rw [List.length_range]
          omega
        · have eA : ∀ m, InS A m ↔ m < 2 ^ wd ∧ Orth vv m := fun m => by rw [sA, sp, so]
          refine k z A H5 (fun c u e => ?_) hz ?_ RA eA ?_
          · have e1 := sm4 _ _ (sm3 _ _ (sm2 _ _ (sm1 c u e)))
            exact sm5 c u (s5 c u (ne_of_none (sm2 _ _ (sm1 c u e)) hM) e1)
          · refine ⟨CA.srt, fun x => (CA.iff x).trans ?_⟩
            have eq : ∀ m, InS (((List.range wd).filter (fr L)).map (mk L)) m ↔ m < 2 ^ wd ∧ Orth vv m := fun m => by rw [sp, so]
            constructor
            · exact fun ⟨a, b, c⟩ => ⟨a, (eq x).mp b, fun y q => c y ((eq y).mpr q)⟩
            · exact fun ⟨a, b, c⟩ => ⟨a, (eq x).mpr b, fun y q => c y ((eq y).mp q)⟩
          · refine Nat.le_trans lA ?_
            rw [List.length_map]
            refine Nat.le_trans (List.length_filter_le _ _) ?_
            rw [List.length_range]
            exact h16
theorem inw_nv {wd : Nat} {vv : List Nat} (h : ∀ v ∈ vv, v < 2 ^ wd) : InW (wd : Int) (vv.map fun n : Nat => (n : Int)) := fun x hx => by
  obtain ⟨v, hv, rfl⟩ := List.mem_map.mp hx
  have := h v hv
  rw [Int.toNat_natCast, ← pow_cast]
  omega
/-! ### kernel -/
def spKernel (K : PySem.W.Frag) : Sp := fun vs H Q _ => ∃ (wd : Nat) (p : Addr) (vv : List Nat), vs = [.int (wd : Int), .ref p] ∧ 1 ≤ wd ∧ wd ≤ 16 ∧ H p = some (.tup (nv vv)) ∧ vv.length ≤ 16 ∧ (∀ v ∈ vv, v < 2 ^ wd) ∧
  ∀ (q : Addr) (A : List Nat) (H' : Hp), Same H H' → H' q = some (.tup (nv A)) → Can (fun m => m < 2 ^ wd ∧ Orth vv m) A → Red A → (∀ m, InS A m ↔ m < 2 ^ wd ∧ Orth vv m) → A.length ≤ 16 → Q (.ref q) H'
theorem scKernel : FnScope ["width", "masks"] ["width", "masks"] (defScope sKernel) := ⟨rfl, rfl, rfl, by decide +kernel, rfl, by decide +kernel, by decide +kernel⟩
theorem ok_kernel {f f1 f2 f3 f4 f5 f6 f7 f8 f9 fa fb : Addr} {fd fd1 fd2 fd3 fd4 fd5 fd6 fd7 fd8 fd9 fda fdb : FuncData} (A0 : At K mg "kernel" sKernel ["width", "masks"] f fd) (A1 : At K mg "is_int" sIsInt ["value"] f1 fd1) (A2 : At K mg "is_address" sIsAddr ["width", "value"] f2 fd2)
    (A3 : At K mg "are_addresses" sAreAddrs ["width", "value", "most"] f3 fd3) (AK : At K mg "are_masks" sAreMasks ["width", "value"] fb fdb) (A4 : At K mg "check_width" sCkWidth ["width"] f4 fd4) (A5 : At K mg "check_map" sCkMap ["width", "masks"] f5 fd5)
    (AM : At K mg "remainder" sRem ["rows", "vector"] f6 fd6) (AR : At K mg "reduced" sRed ["vectors"] f7 fd7) (AH : At K mg "highest_bit" sHb ["number"] f8 fd8) (AP : At K mg "powers" sPowers ["width"] f9 fd9) (AO : At K mg "orthogonal" sOrth ["width", "vectors"] fa fda) (T : Txt K mg) :
    FnOk P w K mg base CX0 6 f fd ["width", "masks"] (spKernel K) := by
  have G4 : FnOk P w K mg base CX0 3 f4 fd4 ["width"] spCkWidth := ok_ckWidth A4 A1 T
  have G5 : FnOk P w K mg base CX0 5 f5 fd5 ["width", "masks"] (spCkMap K) := ok_ckMap A5 A1 A2 A3 AK T
  have GO : FnOk P w K mg base CX0 3 fa fda ["width", "vectors"] (spOrth K) := ok_orth AO AM AR AH AP T
  refine A0.fn.ok scKernel (fun vs H Q E h => ?_) (fun cdv A outer s H vs Q E hr h => ?_)
  · obtain ⟨wd, p, vv, rfl, _⟩ := h
    rfl
  · obtain ⟨wd, p, vv, rfl, w1, w2, hp, hl, hin, k⟩ := h
    have hr2 : Room 2 _ := hr.mono (by decide)
    have hr3 : Room 3 _ := hr.mono (by decide)
    refine ⟨_, pss_cons (ps_expr (pe_call G4 (hr.mono (by decide)) (by rfl) A4.mg A4.fn.kp A4.bi .nil pass0 (pa_cons (pv 0) pa_nil)))
      (pss_cons (ps_expr (pe_call G5 hr (by rfl) A5.mg A5.fn.kp A5.bi .nil pass0 (pa_cons (pv 0) (pa_cons (pv 1) pa_nil))))
      (pss_one (ps_ret (pe_call GO hr3 (by rfl) AO.mg AO.fn.kp AO.bi .nil pass0 (pa_cons (pv 0) (pa_cons (pv 1) pa_nil)))))), ?_⟩
    refine ⟨_, rfl, _, rfl, by omega, by omega, ?_⟩
    refine ⟨_, rfl, _, rfl, _, p, _, rfl, by omega, by omega, by rw [← nv_ints]; exact hp, by rw [List.length_map]; exact hl, inw_nv hin, fun H1 sm1 => ?_⟩
    exact ⟨_, rfl, _, rfl, wd, p, vv, rfl, w2, SqT.of (sm1 _ _ hp), by omega, hin, fun q A H2 sm2 hq CA RA sA lA => k q A H2 (sm1.trans sm2) hq CA RA sA lA⟩
/-- kernel(masks, width) by names -/
def byNames : List Value → List Value → List Value
  | [], [m, w] => [w, m]
  | _, _ => []
def byNamesV : List V → List V → List V
  | [], [m, w] => [w, m]
  | _, _ => []
theorem kb_kernel {f : Addr} {fd : FuncData} (A0 : At K mg "kernel" sKernel ["width", "masks"] f fd) : KBinds K fd ["width", "masks"] ["masks", "width"] byNames byNamesV := by
  obtain ⟨oc, od, kV, doc, pm, an, cdv, ct, osl, efd, lk, hcd⟩ := A0.fn.ex
  subst efd
  refine ⟨fun s us ws _ hl => ?_, fun {vs us zs ws} h1 h2 => ?_⟩
  · match us, ws, hl with
    | [], [m, w], _ => exact .of_eq rfl
  · cases h1 with
    | cons _ _ => exact .nil
    | nil =>
      cases h2 with
      | nil => exact .nil
      | cons r1 h2 =>
        cases h2 with
        | nil => exact .nil
        | cons r2 h2 =>
          cases h2 with
          | nil => exact .cons r2 (.cons r1 .nil)
          | cons _ _ => exact .nil
end
end X1.VK
set_option Elab.async false
set_option maxRecDepth 100000
set_option maxHeartbeats 8000000
set_option pp.maxSteps 600
namespace X1.VC
open X1.V
open PySem L2
open GF (pc par pc_0 pc_eq par_lt InS Can Red Els All Part Orth)
theorem bits_of {n : Nat} (h : n ≠ 0) : Builtin.Int.intBits (n : Int) = n.log2 + 1 := by
  unfold Builtin.Int.intBits
  rw [if_neg (by simpa using h)]
  rfl
theorem pow_cast (k : Nat) : ((2 ^ k : Nat) : Int) = 2 ^ k := by rw [Int.natCast_pow]; rfl
theorem inw_nv {wd : Nat} {vv : List Nat} (h : ∀ v ∈ vv, v < 2 ^ wd) : InW (wd : Int) (vv.map fun n : Nat => (n : Int)) := fun x hx => by
  obtain ⟨v, hv, rfl⟩ := List.mem_map.mp hx
  have := h v hv
  rw [Int.toNat_natCast, ← pow_cast]
  omega
theorem nv_app (a b : List Nat) : nv (a ++ b) = nv a ++ nv b := by unfold nv; rw [List.map_append]
/-! ### lists that are the same -/
theorem eqv_same (ns : List Int) : PyData.eqv (.list (ns.map PyData.int)) (.list (ns.map PyData.int)) = true := PySem.SeqAt.eqv_refl _ (by
  show PyData.canLayAll0 (ns.map PyData.int) = true
  exact canLay_ints ns)
theorem asc_same {L : List Int} {A : List Nat} (hL : L.Pairwise (· < ·)) (hA : A.Pairwise (· < ·)) (h : ∀ k, k ∈ L ↔ k ∈ A.map fun n : Nat => (n : Int)) : L = A.map fun n : Nat => (n : Int) := by
  have hA' : (A.map fun n : Nat => (n : Int)).Pairwise (· < ·) := List.pairwise_map.mpr (hA.imp fun {a b} h => by omega)
  have nd : ∀ {M : List Int}, M.Pairwise (· < ·) → M.Nodup := fun h => h.imp fun {a b} h z => by omega
  have p : L.Perm (A.map fun n : Nat => (n : Int)) := (List.perm_ext_iff_of_nodup (nd hL) (nd hA')).mpr h
  exact List.Perm.eq_of_pairwise (le := (· ≤ ·)) (fun a b _ _ h1 h2 => Int.le_antisymm h1 h2) (hL.imp fun {a b} h => Int.le_of_lt h) (hA'.imp fun {a b} h => Int.le_of_lt h) p
theorem two_shown {u : Int} (h0 : 0 ≤ u) (h1 : u < 65536) : (PyData.list [.int u, .int u]).showable = true ∧ (PyData.list [.int u, .int u]).shown.length ≤ sizeLine := by
  have hlog : u.natAbs.log2 < 1920 := by
    by_cases z : u.natAbs = 0
    · rw [z]
      decide
    · exact (Nat.log2_lt z).mpr (Nat.lt_of_lt_of_le (show u.natAbs < 65536 by omega) (by decide +kernel))
  have hl : (Str.ofString (toString u)).length ≤ 1921 := by
    rw [ofString_length]
    exact int_text_length_le (by decide) hlog
  refine ⟨?_, ?_⟩
  · show (decide (u.natAbs.log2 < 1920) && (decide (u.natAbs.log2 < 1920) && true)) = true
    rw [decide_eq_true hlog]
    rfl
  · show (listText [Str.ofString (toString u), Str.ofString (toString u)]).length ≤ sizeLine
    have h := listText_len_le [Str.ofString (toString u), Str.ofString (toString u)]
    have e : ([Str.ofString (toString u), Str.ofString (toString u)].map (·.length)).sum = (Str.ofString (toString u)).length + (Str.ofString (toString u)).length := by simp
    rw [e] at h
    simp only [List.length_cons, List.length_nil] at h
    rw [sizeLine_eq]
    omega
theorem intBits_pow (k : Nat) : ((Builtin.Int.intBits (((2 ^ k : Nat) : Nat) : Int) : Nat) : Int) - 1 = (k : Int) := by
  have h := Nat.two_pow_pos k
  have e : Builtin.Int.intBits (((2 ^ k : Nat) : Nat) : Int) = (2 ^ k : Nat).log2 + 1 := by
    unfold Builtin.Int.intBits
    rw [if_neg (by rw [beq_iff_eq]; exact fun z => Nat.ne_of_gt h (Int.ofNat_inj.mp z))]
    rfl
  rw [e, Nat.log2_two_pow]
  omega
section
variable {P : Program} {w : World} {K : PySem.W.Frag} {mg : Str → Option Value} {base : Heap}
/-! ### bank_count -/
def spBankCount (K : PySem.W.Frag) : Sp := fun vs H Q _ => ∃ (wd : Nat) (p : Addr) (vv : List Nat), vs = [.int (wd : Int), .ref p] ∧ 1 ≤ wd ∧ wd ≤ 16 ∧ H p = some (.tup (nv vv)) ∧ vv.length ≤ 16 ∧ (∀ v ∈ vv, v < 2 ^ wd) ∧
  ∀ (H' : Hp), Same H H' → Q (.int ((2 ^ (GF.red0 vv).length : Nat) : Int)) H'
theorem scBankCount : FnScope ["width", "masks"] ["width", "masks"] (defScope sBankCount) := ⟨rfl, rfl, rfl, by decide +kernel, rfl, by decide +kernel, by decide +kernel⟩
theorem ok_bankCount {f f1 f2 f3 f4 f5 f6 f7 fb : Addr} {fd fd1 fd2 fd3 fd4 fd5 fd6 fd7 fdb : FuncData} (A0 : At K mg "bank_count" sBankCount ["width", "masks"] f fd) (A1 : At K mg "is_int" sIsInt ["value"] f1 fd1) (A2 : At K mg "is_address" sIsAddr ["width", "value"] f2 fd2)
    (A3 : At K mg "are_addresses" sAreAddrs ["width", "value", "most"] f3 fd3) (AK : At K mg "are_masks" sAreMasks ["width", "value"] fb fdb) (A4 : At K mg "check_width" sCkWidth ["width"] f4 fd4) (A5 : At K mg "check_map" sCkMap ["width", "masks"] f5 fd5)
    (AM : At K mg "remainder" sRem ["rows", "vector"] f6 fd6) (AR : At K mg "reduced" sRed ["vectors"] f7 fd7) (T : Txt K mg) : FnOk P w K mg base CX0 6 f fd ["width", "masks"] (spBankCount K) := by
  have G4 : FnOk P w K mg base CX0 3 f4 fd4 ["width"] spCkWidth := ok_ckWidth A4 A1 T
  have G5 : FnOk P w K mg base CX0 5 f5 fd5 ["width", "masks"] (spCkMap K) := ok_ckMap A5 A1 A2 A3 AK T
  have GT : FnOk P w K mg base CX0 2 f7 fd7 ["vectors"] (spRed K true) := ok_redT AR AM T
  refine A0.fn.ok scBankCount (fun vs H Q E h => ?_) (fun cdv A outer s H vs Q E hr h => ?_)
  · obtain ⟨wd, p, vv, rfl, _⟩ := h
    rfl
  · obtain ⟨wd, p, vv, rfl, w1, w2, hp, hl, hin, k⟩ := h
    have hr2 : Room 2 _ := hr.mono (by decide)
    refine ⟨_, pss_cons (ps_expr (pe_call G4 (hr.mono (by decide)) (by rfl) A4.mg A4.fn.kp A4.bi .nil pass0 (pa_cons (pv 0) pa_nil)))
      (pss_cons (ps_expr (pe_call G5 hr (by rfl) A5.mg A5.fn.kp A5.bi .nil pass0 (pa_cons (pv 0) (pa_cons (pv 1) pa_nil))))
      (pss_one (ps_ret (pe_op op_shl pe_int (pe_callB call_len_seq (by rfl) T.len PySem.boot_len (pa_cons (pe_call GT hr2 (by rfl) AR.mg AR.fn.kp AR.bi .nil pass0 (pa_cons (pv 1) pa_nil)) pa_nil)))))), ?_⟩
    refine ⟨_, rfl, _, rfl, by omega, by omega, ?_⟩
    refine ⟨_, rfl, _, rfl, _, p, _, rfl, by omega, by omega, by rw [← nv_ints]; exact hp, by rw [List.length_map]; exact hl, inw_nv hin, fun H1 sm1 => ?_⟩
    refine ⟨_, rfl, p, vv, rfl, SqT.of (sm1 _ _ hp), by omega, fun q L H2 _ sm2 hq CL RL lL sL => ?_⟩
    refine ⟨q, _, rfl, .inr (SqT.of hq), _, _, rfl, rfl, ⟨by omega, by rw [nv_len]; omega, by decide⟩, ?_⟩
    refine qv ?_ (k H2 (sm1.trans sm2))
    rw [GF.indep_len (GF.red_indep RL) (GF.red_indep (GF.red0_red vv)) (fun x => (sL x).trans (GF.red0_span vv x).symm) |>.symm]
    show V.int (1 * 2 ^ ((((nv L).length : Nat) : Int)).toNat) = _
    rw [nv_len, Int.one_mul, Int.toNat_natCast, pow_cast]
/-- bank_count(masks, width) by names -/
def byNames : List Value → List Value → List Value
  | [], [m, w] => [w, m]
  | _, _ => []
def byNamesV : List V → List V → List V
  | [], [m, w] => [w, m]
  | _, _ => []
theorem kb_count {f : Addr} {fd : FuncData} (A0 : At K mg "bank_count" sBankCount ["width", "masks"] f fd) : KBinds K fd ["width", "masks"] ["masks", "width"] byNames byNamesV := by
  obtain ⟨oc, od, kV, doc, pm, an, cdv, ct, osl, efd, lk, hcd⟩ := A0.fn.ex
  subst efd
  refine ⟨fun s us ws _ hl => ?_, fun {vs us zs ws} h1 h2 => ?_⟩
  · match us, ws, hl with
    | [], [m, w], _ => exact .of_eq rfl
  · cases h1 with
    | cons _ _ => exact .nil
    | nil =>
      cases h2 with
      | nil => exact .nil
      | cons r1 h2 =>
        cases h2 with
        | nil => exact .nil
        | cons r2 h2 =>
          cases h2 with
          | nil => exact .cons r2 (.cons r1 .nil)
          | cons _ _ => exact .nil
end
end X1.VC
set_option Elab.async false
set_option maxRecDepth 100000
set_option maxHeartbeats 8000000
set_option pp.maxSteps 600
namespace X1.VP
open X1.V
open PySem L2
open GF (pc par pc_0 pc_eq par_lt InS Can Red Orth mk isFree)
theorem bits_of {n : Nat} (h : n ≠ 0) : Builtin.Int.intBits (n : Int) = n.log2 + 1 := by
  unfold Builtin.Int.intBits
  rw [if_neg (by simpa using h)]
  rfl
theorem pow_cast (k : Nat) : ((2 ^ k : Nat) : Int) = 2 ^ k := by rw [Int.natCast_pow]; rfl
theorem sum_cast : ∀ l : List Nat, (l.map fun n : Nat => (n : Int)).sum = ((l.sum : Nat) : Int)
  | [] => rfl
  | n :: l => by rw [List.map_cons, List.sum_cons, List.sum_cons, sum_cast l, Int.natCast_add]
theorem in_nv (b : Nat) : ∀ l : List Nat, inV (.int (b : Int)) (nv l) = l.any (· == b)
  | [] => rfl
  | n :: l => by
    show (eqV (.int (n : Int)) (.int (b : Int)) || inV (.int (b : Int)) (nv l)) = ((n == b) || l.any (· == b))
    rw [in_nv b l]
    congr 1
    show ((n : Int) == (b : Int)) = (n == b)
    rw [Bool.eq_iff_iff, beq_iff_eq, beq_iff_eq]
    omega
theorem flat_nv : ∀ l : List Nat, (nv l).all flatV = true
  | [] => rfl
  | n :: l => flat_nv l
def fr (L : List Nat) (j : Nat) : Bool := !((L.map fun r => 2 ^ r.log2).any (· == 2 ^ j))
/-- row & bit, as a test -/
def tBitT (K : PySem.W.Frag) (i j : Nat) : TT := fun σ H Q => tOp (rI0 fun i j => .int (Builtin.bitAnd i j)) (tVar i) (tVar j) σ H fun x H' => ∃ k, TruV K x H' k ∧ Q k H'
theorem fr_iff (L : List Nat) (j : Nat) : fr L j = true ↔ isFree L j := by
  unfold fr isFree
  rw [Bool.not_eq_true', List.any_eq_false]
  constructor
  · intro h r hr e
    exact h (2 ^ r.log2) (List.mem_map.mpr ⟨r, hr, rfl⟩) (by rw [e]; exact beq_self_eq_true _)
  · rintro h x hx e
    obtain ⟨r, hr, rfl⟩ := List.mem_map.mp hx
    have e := beq_iff_eq.mp e
    have e2 := congrArg Nat.log2 e
    rw [Nat.log2_two_pow, Nat.log2_two_pow] at e2
    exact h r hr e2
theorem and_ne (r j : Nat) : (((r &&& 2 ^ j : Nat) : Int) != 0) = r.testBit j := by
  rw [GF.and_pow]
  cases h : r.testBit j
  · rfl
  · have := Nat.two_pow_pos j
    rw [if_pos rfl, bne_iff_ne]
    omega
section
variable {P : Program} {w : World} {K : PySem.W.Frag} {mg : Str → Option Value} {base : Heap}
/-! ### powers -/
def spPowers : Sp := fun vs H Q _ => ∃ wd : Nat, vs = [.int (wd : Int)] ∧ wd ≤ 64 ∧ ∀ (D : Addr) (H' : Hp), H D = none → Same H H' → H' D = some (.lst (nv ((List.range wd).map (2 ^ ·)))) → Q (.ref D) H'
theorem scPowers : FnScope ["width", "index"] ["width"] (defScope sPowers) := ⟨rfl, rfl, rfl, by decide +kernel, rfl, by decide +kernel, by decide +kernel⟩
theorem ok_powers {f : Addr} {fd : FuncData} (A0 : At K mg "powers" sPowers ["width"] f fd) (T : Txt K mg) : FnOk P w K mg base CX0 1 f fd ["width"] spPowers := by
  refine A0.fn.ok scPowers (fun vs H Q E h => ?_) (fun cdv A outer s H vs Q E hr h => ?_)
  · obtain ⟨n, rfl, _⟩ := h
    rfl
  · obtain ⟨wd, rfl, h1, k⟩ := h
    refine ⟨_, pss_one (ps_ret (pe_lc (own := [("index", 1)]) (g := gName 1) (tt := tYes) rfl scPowers.nd (pi_range1 (by rfl) T.range (pa_cons (pv 0) pa_nil)) (blkOk_by (N := ["width", "index"]) (sc := defScope sPowers) (by decide +kernel)) (fun _ _ _ _ _ => pg_name (i := 1) scPowers.nd rfl (Or.inl rfl)) (fun _ _ _ _ _ => pts_nil) (fun _ _ _ _ _ => pe_op op_shl pe_int (pv 1)))), ?_⟩
    refine ⟨_, rfl, _, rfl, by omega, by omega, fun D hD => ?_⟩
    refine lc_range (lo := 0) (n := wd) (fun i H' => (∀ c u, c ≠ D → H c = some u → H' c = some u) ∧ H' D = some (.lst (nv ((List.range i).map (2 ^ ·))))) ⟨fun c u n e => by rw [upd_ne n]; exact e, upd_same⟩ ?_ ?_
    · rintro i H1 hi ⟨s1, hd⟩
      refine ⟨rfl, yes (iteT ?_)⟩
      refine ⟨_, rfl, _, _, rfl, rfl, ⟨by omega, by omega, by decide⟩, _, hd, ?_, ?_, ?_⟩
      · rw [nv_len, List.length_map, List.length_range]
        exact Nat.lt_of_lt_of_le hi (Nat.le_trans h1 (by decide))
      · exact fun c u n e => by rw [upd_ne n]; exact s1 c u n e
      · rw [upd_same, List.range_succ, List.map_append]
        show some (HO.lst (nv _ ++ [V.int (1 * 2 ^ ((0 : Int) + (i : Int)).toNat)])) = _
        rw [Int.one_mul, show ((0 : Int) + (i : Int)).toNat = i by omega, ← pow_cast]
        unfold nv
        rw [List.map_append]
        rfl
    · rintro H1 ⟨s1, hd⟩
      exact k D H1 hD (fun c u e => s1 c u (ne_of_none e hD) e) hd
theorem inw_nv {wd : Nat} {vv : List Nat} (h : ∀ v ∈ vv, v < 2 ^ wd) : InW (wd : Int) (vv.map fun n : Nat => (n : Int)) := fun x hx => by
  obtain ⟨v, hv, rfl⟩ := List.mem_map.mp hx
  have := h v hv
  rw [Int.toNat_natCast, ← pow_cast]
  omega
end
end X1.VP
set_option Elab.async false
set_option maxRecDepth 100000
set_option maxHeartbeats 8000000
set_option pp.maxSteps 600
namespace X1.VB
open X1.V
open PySem L2
open GF (pc par pc_0 pc_eq par_lt)
theorem and_le (a b : Nat) : a &&& b ≤ a := Nat.and_le_left
theorem shl_par (n i : Nat) : (par n : Int) * 2 ^ ((i : Int)).toNat = (par n : Int) * 2 ^ i := rfl
section
variable {P : Program} {w : World} {K : PySem.W.Frag} {mg : Str → Option Value} {base : Heap}
/-! ### bank -/
/-! ### bank_of -/
def spBankOf : Sp := fun vs H Q _ => ∃ (p : Addr) (ms : List Int) (a : Int), vs = [.ref p, .int a] ∧ H p = some (.tup (ms.map V.int)) ∧ ms.length ≤ 16 ∧ (∀ m ∈ ms, 0 ≤ m) ∧ 0 ≤ a ∧ a < 65536 ∧ ∀ H', Same H H' → Q (.int (bankOf ms a)) H'
theorem scBankOf : FnScope ["masks", "address", "index", "mask"] ["masks", "address"] (defScope sBankOf) := ⟨rfl, rfl, rfl, by decide +kernel, rfl, by decide +kernel, by decide +kernel⟩
theorem ok_bankOf {f f1 f8 : Addr} {fd fd1 fd8 : FuncData} (A0 : At K mg "bank_of" sBankOf ["masks", "address"] f fd) (A1 : At K mg "is_int" sIsInt ["value"] f1 fd1) (A8 : At K mg "parity" sParity ["number"] f8 fd8) (T : Txt K mg) : FnOk P w K mg base CX0 3 f fd ["masks", "address"] spBankOf := by
  have G8 : FnOk P w K mg base CX0 2 f8 fd8 ["number"] spParity := ok_parity A8 A1 T
  refine A0.fn.ok scBankOf (fun vs H Q E h => ?_) (fun cdv A outer s H vs Q E hr h => ?_)
  · obtain ⟨p, ms, a, rfl, _⟩ := h
    rfl
  · obtain ⟨p, ms, a, rfl, hp, hl, hin, a0, a1, k⟩ := h
    refine ⟨_, (pss_one (ps_ret (pe_callB (cr_sum rfl) (by rfl) T.sum (by decide +kernel) (pa_cons (pe_lc (own := [("index", 2), ("mask", 3)]) (g := gTup K 2 (gCons (gName 2) (gCons (gName 3) gNil))) (tt := tYes) rfl scBankOf.nd (G.pi_enumT (by rfl) T.enum (pa_cons (pv 0) pa_nil)) (blkOk_by (N := ["masks", "address", "index", "mask"]) (sc := defScope sBankOf) (by decide +kernel)) (fun _ _ _ _ _ => by exact pg_tup rfl (pgs_cons (pg_name (i := 2) scBankOf.nd rfl (Or.inl rfl)) (pgs_cons (pg_name (i := 3) scBankOf.nd rfl (Or.inl rfl)) pgs_nil))) (fun _ _ _ _ _ => pts_nil)
      (fun _ _ _ _ _ => pe_op op_shl (pe_call G8 hr (by rfl) A8.mg A8.fn.kp A8.bi .nil pass0 (pa_cons (pe_op op_and (pv 1) (pv 3)) pa_nil)) (pv 2))) pa_nil)))), ?_⟩
    have hbig : a.toNat < 2 ^ 2000 := Nat.lt_of_lt_of_le (show a.toNat < 65536 by omega) (by decide +kernel)
    refine ⟨_, rfl, p, _, rfl, SqT.of hp, fun D hD => ?_⟩
    have npD : p ≠ D := ne_of_none hp hD
    refine lc_it (G.walk_enumT (K := K) (a := p) (xs := ms.map V.int)) (fun i H' => (∀ b o, b ≠ D → H b = some o → H' b = some o) ∧ H' D = some (.lst (((bits ms a).take i).map V.int))) ⟨fun b o n e => by rw [upd_ne n]; exact e, upd_same⟩
      (fun i H' _ ⟨s1, _⟩ => SqT.of (s1 _ _ npD hp)) ?_ ?_
    · rintro i x H2 H3 hi ⟨s1, hd⟩ ⟨Tp, x1, x2, rfl, hT, rfl, e1, e2⟩
      cases e1
      obtain ⟨m, em, rfl, hil, eg⟩ := at_map e2
      have hm := hin m (List.mem_of_getElem? em)
      have nTD : D ≠ Tp := ne_of_none hd hT
      refine ⟨Tp, _, rfl, SqT.of upd_same, rfl, _, _, rfl, _, _, rfl, rfl, rfl, yes (iteT ?_)⟩
      refine ⟨_, rfl, _, rfl, _, _, rfl, rfl, (a.toNat &&& m.toNat), ?_, Nat.lt_of_le_of_lt Nat.and_le_left hbig, _, rfl, _, _, rfl, rfl, ⟨by omega, by omega, ?_⟩, _, by rw [upd_ne nTD]; exact hd, ?_, ?_⟩
      · show [V.int (Builtin.bitAnd a m)] ++ [] = _
        rw [PyProof.Rows.bitAnd_pp a0 hm]
        rfl
      · have := par_lt (a.toNat &&& m.toNat)
        omega
      · rw [List.length_map, List.length_take, bits_length]
        exact Nat.lt_of_le_of_lt (Nat.min_le_left _ _) (Nat.lt_trans hil (Nat.lt_of_le_of_lt hl (by decide)))
      · refine ⟨fun b o n e => ?_, ?_⟩
        · rw [upd_ne n, upd_ne (ne_of_none (s1 b o n e) hT)]
          exact s1 b o n e
        · rw [upd_same, ← bits_next ms a hil, List.map_append]
          unfold bitOf
          rw [eg]
          rfl
    · rintro H' ⟨s1, hd⟩
      rw [List.length_map, List.take_of_length_le (by rw [bits_length]; exact Nat.le_refl _)] at hd
      exact ⟨D, _, rfl, SqL.of hd, k H' fun b o e => s1 b o (ne_of_none e hD) e⟩
def spBank : Sp := fun vs H Q _ => ∃ (wd a : Int) (p : Addr) (ms : List Int), vs = [.int wd, .ref p, .int a] ∧ 1 ≤ wd ∧ wd ≤ 16 ∧ H p = some (.tup (ms.map V.int)) ∧ ms.length ≤ 16 ∧ InW wd ms ∧ 0 ≤ a ∧ a < 2 ^ wd.toNat ∧
  ∀ H', Same H H' → Q (.int (bankOf ms a)) H'
theorem scBank : FnScope ["width", "masks", "address"] ["width", "masks", "address"] (defScope sBank) := ⟨rfl, rfl, rfl, by decide +kernel, rfl, by decide +kernel, by decide +kernel⟩
theorem ok_bank {f f1 f2 f3 f4 f5 f6 f7 f8 f9 : Addr} {fd fd1 fd2 fd3 fd4 fd5 fd6 fd7 fd8 fd9 : FuncData} (A0 : At K mg "bank" sBank ["width", "masks", "address"] f fd) (A1 : At K mg "is_int" sIsInt ["value"] f1 fd1)
    (A2 : At K mg "is_address" sIsAddr ["width", "value"] f2 fd2) (A3 : At K mg "are_addresses" sAreAddrs ["width", "value", "most"] f3 fd3) (A4 : At K mg "are_masks" sAreMasks ["width", "value"] f4 fd4)
    (A5 : At K mg "check_width" sCkWidth ["width"] f5 fd5) (A6 : At K mg "check_map" sCkMap ["width", "masks"] f6 fd6) (A7 : At K mg "check_address" sCkAddr ["width", "address"] f7 fd7) (A8 : At K mg "parity" sParity ["number"] f8 fd8) (AB : At K mg "bank_of" sBankOf ["masks", "address"] f9 fd9) (T : Txt K mg) :
    FnOk P w K mg base CX0 6 f fd ["width", "masks", "address"] spBank := by
  have G5 : FnOk P w K mg base CX0 3 f5 fd5 ["width"] spCkWidth := ok_ckWidth A5 A1 T
  have G6 : FnOk P w K mg base CX0 5 f6 fd6 ["width", "masks"] (spCkMap K) := ok_ckMap A6 A1 A2 A3 A4 T
  have G7 : FnOk P w K mg base CX0 3 f7 fd7 ["width", "address"] spCkAddr := ok_ckAddr A7 A1 A2 T
  have GB : FnOk P w K mg base CX0 3 f9 fd9 ["masks", "address"] spBankOf := ok_bankOf AB A1 A8 T
  refine A0.fn.ok scBank (fun vs H Q E h => ?_) (fun cdv A outer s H vs Q E hr h => ?_)
  · obtain ⟨wd, a, p, ms, rfl, _⟩ := h
    rfl
  · obtain ⟨wd, a, p, ms, rfl, w1, w2, hp, hl, hin, a0, a1, k⟩ := h
    have hr2 : Room 2 _ := hr.mono (by decide)
    have hr3 : Room 3 _ := hr.mono (by decide)
    refine ⟨_, pss_cons (ps_expr (pe_call G5 (hr.mono (by decide)) (by rfl) A5.mg A5.fn.kp A5.bi .nil pass0 (pa_cons (pv 0) pa_nil)))
      (pss_cons (ps_expr (pe_call G6 hr (by rfl) A6.mg A6.fn.kp A6.bi .nil pass0 (pa_cons (pv 0) (pa_cons (pv 1) pa_nil))))
      (pss_cons (ps_expr (pe_call G7 hr3 (by rfl) A7.mg A7.fn.kp A7.bi .nil pass0 (pa_cons (pv 0) (pa_cons (pv 2) pa_nil))))
      (pss_one (ps_ret (pe_call GB hr3 (by rfl) AB.mg AB.fn.kp AB.bi .nil pass0 (pa_cons (pv 1) (pa_cons (pv 2) pa_nil))))))), ?_⟩
    refine ⟨_, rfl, wd, rfl, w1, w2, ?_⟩
    refine ⟨_, rfl, _, rfl, wd, p, ms, rfl, by omega, by omega, hp, hl, hin, fun H1 sm1 => ?_⟩
    refine ⟨_, rfl, _, rfl, wd, a, rfl, by omega, by omega, a0, a1, ?_⟩
    obtain ⟨q1, q2⟩ := pw_le w1 w2
    exact ⟨_, rfl, _, rfl, p, ms, a, rfl, sm1 _ _ hp, hl, fun m hm => (hin m hm).1, a0, by omega, fun H2 sm2 => k H2 (sm1.trans sm2)⟩
end
end X1.VB
set_option Elab.async false
set_option maxRecDepth 100000
set_option maxHeartbeats 8000000
set_option pp.maxSteps 600
namespace X1.VD
open X1.V
open X1.VP
open PySem L2
open GF (pc par pc_0 pc_eq par_lt InS Can Red)
open G (spInit spInit0 ClsFn FunD KxC Kept Flies mkO_of0)
abbrev sI0 : Stmt := inClass (top 1) 0
abbrev sI4 : Stmt := inClass (top 7) 0
/-- what the defs ask of the classes -/
structure Exc (K : PySem.W.Frag) (mg : Str → Option Value) (CB CD CW CM f0 f4 : Addr) (fd0 fd4 : FuncData) : Prop where
  gB : mg "BankError" = some (.ref CB)
  gD : mg "Dependent" = some (.ref CD)
  gW : mg "InvalidWidth" = some (.ref CW)
  gM : mg "InvalidMap" = some (.ref CM)
  oD : OexC K CD
  noV : PySem.W.findIn K (.ref CD) "value" = some none
  iD : PySem.W.findIn K (.ref CD) "__init__" = some (some (.ref f4))
  tI : PySem.W.typeIn K (.ref f4) = some (.type "function")
  F0 : FunD K "__init__" "BankError.__init__" sI0 f0 fd0
  b0 : Binds K fd0 ["self", "value"] [.none]
  F4 : FunD K "__init__" "Dependent.__init__" sI4 f4 fd4
  b4 : Binds K fd4 ["self"] []
  cB : ClsFn K CB f0 "__init__"
  kx : KxC K CD
  te : PySem.W.exmOne K (.ref CD) (.ref CB) = some true
  nW : PySem.W.kitOne K (.ref CD) (.ref CW) = some false
  nM : PySem.W.kitOne K (.ref CD) (.ref CM) = some false
section
variable {P : Program} {w : World} {K : PySem.W.Frag} {mg : Str → Option Value} {base : Heap}
theorem scI0 : FnScope ["self", "value"] ["self", "value"] (defScope sI0) := ⟨rfl, rfl, rfl, by decide +kernel, rfl, by decide +kernel, by decide +kernel⟩
theorem scI4 : FnScope ["self"] ["self"] (defScope sI4) := ⟨rfl, rfl, rfl, by decide +kernel, rfl, by decide +kernel, by decide +kernel⟩
theorem ok_init0 {CB CD CW CM f0 f4 : Addr} {fd0 fd4 : FuncData} (EX : Exc K mg CB CD CW CM f0 f4 fd0 fd4) : FnOk P w K mg base CX0 1 f0 fd0 ["self", "value"] (spInit K) := by
  refine EX.F0.ok scI0 (fun vs H Q E h => ?_) (fun cdv A outer s H vs Q E hr h => ?_)
  · obtain ⟨a, C, v, rfl, _⟩ := h
    rfl
  · obtain ⟨a, C, v, rfl, T, hno, ha, k⟩ := h
    refine ⟨_, pss_one (ps_ost (pv 0) (pv 1)), ?_⟩
    exact ⟨_, rfl, _, rfl, a, C, rfl, T, hno, .inl ⟨ha, k⟩⟩
theorem ok_init4 {CB CD CW CM f0 f4 : Addr} {fd0 fd4 : FuncData} (EX : Exc K mg CB CD CW CM f0 f4 fd0 fd4) : FnOk P w K mg base CX0 2 f4 fd4 ["self"] (spInit0 K) := by
  have G0 : FnOk P w K mg base CX0 1 f0 fd0 ["self", "value"] (spInit K) := ok_init0 EX
  refine EX.F4.ok scI4 (fun vs H Q E h => ?_) (fun cdv A outer s H vs Q E hr h => ?_)
  · obtain ⟨a, C, rfl, _⟩ := h
    rfl
  · obtain ⟨a, C, rfl, T, hno, ha, k⟩ := h
    refine ⟨_, pss_one (ps_expr (G.pe_clsfn G0 hr EX.cB (by rfl) EX.gB EX.b0 (dvs := [.non]) (.cons rfl .nil) pass0 (pa_cons (pv 0) pa_nil))), ?_⟩
    exact ⟨_, rfl, a, C, .non, rfl, T, hno, ha, k⟩
/-! ### are_independent -/
def spInd (K : PySem.W.Frag) : Sp := fun vs H Q _ => ∃ (p : Addr) (vv : List Nat), vs = [.ref p] ∧ H p = some (.tup (nv vv)) ∧ vv.length ≤ 1000 ∧ ∀ H', Same H H' → Q (.bl (decide ((GF.red0 vv).length = vv.length))) H'
theorem scInd : FnScope ["masks"] ["masks"] (defScope sInd) := ⟨rfl, rfl, rfl, by decide +kernel, rfl, by decide +kernel, by decide +kernel⟩
theorem ok_ind {f f1 f2 : Addr} {fd fd1 fd2 : FuncData} (A0 : At K mg "are_independent" sInd ["masks"] f fd) (AR : At K mg "reduced" sRed ["vectors"] f1 fd1) (AM : At K mg "remainder" sRem ["rows", "vector"] f2 fd2) (T : Txt K mg) :
    FnOk P w K mg base CX0 3 f fd ["masks"] (spInd K) := by
  have GR : FnOk P w K mg base CX0 2 f1 fd1 ["vectors"] (spRed K true) := ok_redT AR AM T
  refine A0.fn.ok scInd (fun vs H Q E h => ?_) (fun cdv A outer s H vs Q E hr h => ?_)
  · obtain ⟨p, vv, rfl, _⟩ := h
    rfl
  · obtain ⟨p, vv, rfl, hp, hl, k⟩ := h
    refine ⟨_, pss_one (ps_ret (pe_cmpR op_eq (pe_callB call_len_seq (by rfl) T.len PySem.boot_len (pa_cons (pe_call GR hr (by rfl) AR.mg AR.fn.kp AR.bi .nil pass0 (pa_cons (pv 0) pa_nil)) pa_nil)) (pe_callB call_len_seq (by rfl) T.len PySem.boot_len (pa_cons (pv 0) pa_nil)) (nomark _))), ?_⟩
    refine ⟨_, rfl, p, vv, rfl, (by show (if true = true then SqT K H p (nv vv) else SqL K H p (nv vv)); exact SqT.of hp), hl, fun q L H1 _ sm hq _ RL _ sL => ?_⟩
    refine ⟨q, _, rfl, .inr (SqT.of hq), _, rfl, p, _, rfl, .inr (SqT.of (sm _ _ hp)), rfl, ?_⟩
    have e : L.length = (GF.red0 vv).length := GF.indep_len (GF.red_indep RL) (GF.red_indep (GF.red0_red vv)) fun x => (sL x).trans (GF.red0_span vv x).symm
    refine qv ?_ (k H1 sm)
    rw [nv_len, nv_len, e]
    congr 1
    rw [Bool.eq_iff_iff, decide_eq_true_iff, decide_eq_true_iff]
    exact ⟨fun z => Int.ofNat_inj.mp (V.int.inj z), fun z => by rw [z]⟩
end
end X1.VD
set_option Elab.async false
set_option maxRecDepth 100000
set_option maxHeartbeats 8000000
set_option pp.maxSteps 600
namespace GF
theorem new_iff (C : List Nat) (v : Nat) : rem (red0 C) v = 0 ↔ InS C v := (rem_zero (red0_red C) v).trans (red0_span C v)
/-- those of the vectors that are new, one behind the other -/
def pick (C : List Nat) : List Nat → List Nat
  | [] => []
  | v :: vs => if rem (red0 C) v = 0 then pick C vs else v :: pick (C ++ [v]) vs
theorem pick_snoc (v : Nat) : ∀ (a C : List Nat), pick C (a ++ [v]) = pick C a ++ (if rem (red0 (C ++ pick C a)) v = 0 then [] else [v])
  | [], C => by
    show (if rem (red0 C) v = 0 then [] else [v]) = (if rem (red0 (C ++ [])) v = 0 then [] else [v])
    rw [List.append_nil]
  | u :: a, C => by
    show pick C (u :: (a ++ [v])) = _
    unfold pick
    by_cases h : rem (red0 C) u = 0
    · rw [if_pos h, if_pos h, pick_snoc v a C]
    · rw [if_neg h, if_neg h, pick_snoc v a (C ++ [u]), List.append_assoc]
      rfl
theorem pick_len : ∀ (vs C : List Nat), (pick C vs).length ≤ vs.length
  | [], C => Nat.le_refl _
  | v :: vs, C => by
    unfold pick
    split
    · exact Nat.le_succ_of_le (pick_len vs C)
    · exact Nat.succ_le_succ (pick_len vs _)
theorem comp_pick {vv : List Nat} (h : Indep vv) : ∀ n, comp vv n = vv ++ pick vv ((List.range n).map (2 ^ ·))
  | 0 => by rw [comp_0]; exact (List.append_nil vv).symm
  | n + 1 => by
    have ih := comp_pick h n
    rw [comp_next, List.range_succ, List.map_append]
    show compS (comp vv n) n = vv ++ pick vv ((List.range n).map (2 ^ ·) ++ [2 ^ n])
    rw [pick_snoc, ← List.append_assoc, ← ih]
    unfold compS
    have hi : Indep (comp vv n) := (comp_is h n).ind
    have key : (red0 (comp vv n ++ [2 ^ n])).length = (comp vv n ++ [2 ^ n]).length ↔ ¬ rem (red0 (comp vv n)) (2 ^ n) = 0 := by
      rw [indep_iff, indep_snoc hi, new_iff]
    by_cases c : rem (red0 (comp vv n)) (2 ^ n) = 0
    · rw [if_neg (fun z => key.mp z c), if_pos c, List.append_nil]
    · rw [if_pos (key.mpr c), if_neg c]
end GF
namespace X1.VD
open X1.V
open X1.VP
open PySem L2
open GF (pc par pc_0 pc_eq par_lt InS Can Red Indep comp)
open G (spInit spInit0 ClsFn FunD KxC Kept Flies mkO_of0)
/-! ### tuples of numbers, put together -/
theorem red_le {L : List Nat} {w : Nat} (R : Red L) (hw : ∀ r ∈ L, r < 2 ^ w) : L.length ≤ w := by
  have dec : ∀ j, Decidable (GF.isFree L j) := fun j => Classical.propDecidable _
  have := GF.free_count R hw (js := (List.range w).filter fun j => @decide (GF.isFree L j) (dec j)) (List.nodup_range.sublist List.filter_sublist) fun j => by rw [List.mem_filter, List.mem_range, decide_eq_true_iff]
  omega
theorem nv_app (a b : List Nat) : nv (a ++ b) = nv a ++ nv b := by unfold nv; rw [List.map_append]
theorem nv_nil {l : List Nat} (h : nv l = []) : l = [] := by
  unfold nv at h
  exact List.map_eq_nil_iff.mp h
section
variable {X : Cx}
def rCatN (K : PySem.W.Frag) : R2 := fun x y H Q => ∃ (a b : Addr) (xs ys : List Nat), x = .ref a ∧ y = .ref b ∧ H a = some (.tup (nv xs)) ∧ H b = some (.tup (nv ys)) ∧ xs.length + ys.length ≤ 1000 ∧ ∀ (r : Addr) (H' : Hp), Same H H' → H' r = some (.tup (nv (xs ++ ys))) → Q (.ref r) H'
theorem op_catN : OpR X (binaryOp .Add) (rCatN X.K) := fun pins s σ H x y v u Q I rx ry h => op_catA pins s σ H x y v u Q I rx ry (by
  obtain ⟨a, b, xs, ys, rfl, rfl, ha, hb, hl, k⟩ := h
  refine ⟨a, b, nv xs, nv ys, rfl, rfl, SqT.of ha, SqT.of hb, by rw [nv_len, nv_len]; exact Nat.le_trans hl (by decide), fun e => ?_, fun _ e => ?_, fun _ _ p hp => ?_⟩
  · have e := nv_nil e
    subst e
    exact k b H (Same.refl H) hb
  · have e := nv_nil e
    subst e
    exact k a H (Same.refl H) (by rw [List.append_nil]; exact ha)
  · exact k p _ (keep_new (Same.refl H) hp) (by rw [upd_same, nv_app]))
end
section
variable {P : Program} {w : World} {K : PySem.W.Frag} {mg : Str → Option Value} {base : Heap}
/-! ### independent -/
def spIndepN (K : PySem.W.Frag) : Sp := fun vs H Q _ => ∃ (p q : Addr) (kk vv : List Nat), vs = [.ref p, .ref q] ∧ H p = some (.tup (nv kk)) ∧ H q = some (.lst (nv vv)) ∧ kk.length + vv.length ≤ 900 ∧
  ∀ (z : Addr) (H' : Hp), Same H H' → H' z = some (.tup (nv (GF.pick kk vv))) → Q (.ref z) H'
theorem scIndepN : FnScope ["known", "vectors", "chosen", "rows", "vector"] ["known", "vectors"] (defScope sIndepN) := ⟨rfl, rfl, rfl, by decide +kernel, rfl, by decide +kernel, by decide +kernel⟩
theorem ok_indepN {f f1 f2 : Addr} {fd fd1 fd2 : FuncData} (A0 : At K mg "independent" sIndepN ["known", "vectors"] f fd) (AM : At K mg "remainder" sRem ["rows", "vector"] f1 fd1) (AR : At K mg "reduced" sRed ["vectors"] f2 fd2) (T : Txt K mg) :
    FnOk P w K mg base CX0 3 f fd ["known", "vectors"] (spIndepN K) := by
  have GT : FnOk P w K mg base CX0 2 f2 fd2 ["vectors"] (spRed K true) := ok_redT AR AM T
  have GM : FnOk P w K mg base CX0 1 f1 fd1 ["rows", "vector"] (spRemT K) := ok_remT AM T
  refine A0.fn.ok scIndepN (fun vs H Q E h => ?_) (fun cdv A outer s H vs Q E hr h => ?_)
  · obtain ⟨p, q, kk, vv, rfl, _⟩ := h
    rfl
  · obtain ⟨p, q, kk, vv, rfl, hp, hq, hl, k⟩ := h
    have hr1 : Room 1 _ := hr.mono (by decide)
    have hr2 : Room 2 _ := hr
    refine ⟨_, (pss_cons (ps_set (i := 2) scIndepN.nd rfl (Or.inl rfl) (pe_lst pa_nil))
      (pss_cons (ps_set (i := 3) scIndepN.nd rfl (Or.inl rfl) (pe_call GT hr2 (by rfl) AR.mg AR.fn.kp AR.bi .nil pass0 (pa_cons (pv 0) pa_nil)))
      (pss_cons (ps_for PassesOwn.never rfl (pi_list (pv 1)) (pg_name (i := 4) scIndepN.nd rfl (Or.inl rfl)) (pss_one (ps_if (pt_cmpR op_gt (pe_call GM hr1 (by rfl) AM.mg AM.fn.kp AM.bi .nil pass0 (pa_cons (pv 3) (pa_cons (pv 4) pa_nil))) pe_int (nomark _))
        (pss_cons (ps_expr (pe_bm PySem.F.plainAttrs_list PySem.F.slot_list_append PySem.F.type_list_append mt_append (pv 2) (pa_cons (pv 4) pa_nil)))
        (pss_one (ps_set (i := 3) scIndepN.nd rfl (Or.inl rfl) (pe_call GT hr2 (by rfl) AR.mg AR.fn.kp AR.bi .nil pass0 (pa_cons (pe_op op_catN (pv 3) (pe_tup (pa_cons (pv 4) pa_nil))) pa_nil))))) pss_nil)))
      (pss_one (ps_ret (pe_callTy call_tuple_of (by rfl) T.tuple (by decide +kernel) (pa_cons (pv 2) pa_nil))))))), ?_⟩
    refine ⟨by show 0 ≤ sizeLine; decide, fun c hc => ?_⟩
    have npc : p ≠ c := ne_of_none hp hc
    have nqc : q ≠ c := ne_of_none hq hc
    refine ⟨_, rfl, p, kk, rfl, SqT.of ((upd_ne npc).trans hp), by omega, fun r0 R0 H1 _ sm1 hr0 cR rR lR sR => ?_⟩
    have s0 : ∀ x u, x ≠ c → H x = some u → H1 x = some u := fun x u n e => sm1 _ _ ((upd_ne n).trans e)
    refine ⟨_, rfl, q, rfl, ⟨_, SqL.of (s0 _ _ nqc hq)⟩, ?_⟩
    refine for_list (K := K) (a := q) (xs := nv vv) (fun i σ H' => ∃ (r : Addr) (R : List Nat) (t4 : Option V), σ = [some (.ref p), some (.ref q), some (.ref c), some (.ref r), t4] ∧ (∀ x u, x ≠ c → H x = some u → H' x = some u) ∧ H' c = some (.lst (nv (GF.pick kk (vv.take i)))) ∧ H' r = some (.tup (nv R)) ∧
        Red R ∧ R.length ≤ kk.length + i ∧ ∀ x, InS R x ↔ InS (kk ++ GF.pick kk (vv.take i)) x)
      ⟨r0, R0, none, rfl, s0, sm1 _ _ upd_same, hr0, rR, by omega, fun x => by rw [sR, List.take_zero, show GF.pick kk [] = [] from rfl, List.append_nil]⟩ (fun i σ H' _ ⟨_, _, _, _, s, _⟩ => SqL.of (s _ _ nqc hq)) ?_ ?_
    · rintro i y σ H2 hy ⟨r, R, t4, rfl, s2, hc2, hr2', rR, lR, sR⟩
      obtain ⟨v, ev, rfl, hi⟩ := nv_at hy
      have et : vv.take (i + 1) = vv.take i ++ [v] := by rw [List.take_add_one, ev]; rfl
      have pl : (GF.pick kk (vv.take i)).length ≤ i := Nat.le_trans (GF.pick_len _ _) (by rw [List.length_take]; exact Nat.min_le_left _ _)
      have hrm : GF.rem R v = 0 ↔ GF.rem (GF.red0 (kk ++ GF.pick kk (vv.take i))) v = 0 := by rw [GF.rem_zero rR, GF.new_iff, sR]
      refine ⟨_, rfl, _, rfl, r, R, v, rfl, SqT.of hr2', _, _, rfl, rfl, _, rfl, ?_⟩
      by_cases h0 : GF.rem R v = 0
      · refine iteFb (decide_eq_false (by rw [h0]; decide)) ?_
        refine ⟨r, R, _, rfl, s2, ?_, hr2', rR, by omega, fun x => ?_⟩
        · rw [et, GF.pick_snoc, if_pos (hrm.mp h0), List.append_nil]; exact hc2
        · rw [et, GF.pick_snoc, if_pos (hrm.mp h0), List.append_nil]; exact sR x
      · refine iteTb (decide_eq_true (by omega)) ?_
        have hn : ¬ GF.rem (GF.red0 (kk ++ GF.pick kk (vv.take i))) v = 0 := fun z => h0 (hrm.mpr z)
        have nrc : r ≠ c := fun z => by rw [z, hc2] at hr2'; cases hr2'
        refine ⟨_, rfl, .inl ⟨rfl, _, SqL.of hc2⟩, _, rfl, c, _, _, rfl, rfl, hc2, by rw [nv_len]; exact Nat.lt_of_le_of_lt (Nat.le_trans pl (by omega : i ≤ 900)) (by decide), ?_⟩
        have hr3 : (upd H2 c (.lst (nv (GF.pick kk (vv.take i)) ++ [.int (v : Int)]))) r = some (.tup (nv R)) := (upd_ne nrc).trans hr2'
        refine ⟨_, rfl, _, rfl, (by show 1 ≤ sizeLine; decide), fun t ht => ?_⟩
        have hr4 := (fun h => new_at (p := r) (u := .tup (nv [v])) h ht) hr3
        refine ⟨r, t, R, [v], rfl, rfl, hr4, upd_same, by rw [List.length_singleton]; omega, fun z H5 sm5 hz => ?_⟩
        have ek : (upd (upd H2 c (.lst (nv (GF.pick kk (vv.take i)) ++ [.int (v : Int)]))) t (.tup (nv [v]))) c = some (.lst (nv (GF.pick kk (vv.take i)) ++ [.int (v : Int)])) := new_at upd_same ht
        refine ⟨z, R ++ [v], rfl, SqT.of hz, by rw [List.length_append, List.length_singleton]; omega, fun r' R' H6 _ sm6 hr6 cR' rR' lR' sR' => ?_⟩
        refine ⟨r', R', _, rfl, fun x u n e => sm6 _ _ (sm5 _ _ (new_at ((upd_ne n).trans (s2 x u n e)) ht)), ?_, hr6, rR', ?_, fun x => ?_⟩
        · rw [et, GF.pick_snoc, if_neg hn]
          have := sm6 _ _ (sm5 _ _ ek)
          rw [this]
          unfold nv
          rw [List.map_append]
          rfl
        · have e : (R ++ [v]).length = R.length + 1 := List.length_append
          omega
        · rw [et, GF.pick_snoc, if_neg hn, sR', ← List.append_assoc, GF.ins_snoc, GF.ins_snoc, sR, sR]
    · rintro σ H2 ⟨r, R, t4, rfl, s2, hc2, hr2', rR, lR, sR⟩
      rw [nv_len, List.take_length] at hc2
      refine ⟨_, rfl, c, _, rfl, .inl ⟨SqL.of hc2, fun l hl' => ?_⟩⟩
      exact k l _ (fun x u e => (new_at (s2 x u (ne_of_none e hc) e) hl')) upd_same
/-! ### completed -/
def spComp (K : PySem.W.Frag) (CD : Addr) : Sp := fun vs H Q E => ∃ (wd : Nat) (p : Addr) (vv : List Nat), vs = [.int (wd : Int), .ref p] ∧ 1 ≤ wd ∧ wd ≤ 16 ∧ H p = some (.tup (nv vv)) ∧ vv.length ≤ 16 ∧ (∀ v ∈ vv, v < 2 ^ wd) ∧
  (Indep vv → ∀ (q : Addr) (H' : Hp), Same H H' → H' q = some (.tup (nv (comp vv wd))) → Q (.ref q) H') ∧ (¬ Indep vv → ∀ H', Same H H' → Flies CD .non E H')
theorem scComp : FnScope ["width", "masks"] ["width", "masks"] (defScope sComp) := ⟨rfl, rfl, rfl, by decide +kernel, rfl, by decide +kernel, by decide +kernel⟩
theorem ok_comp {f f1 f2 f3 fk f4 f5 f6 f7 f8 f9 CB CD CW CM e0 e4 : Addr} {fd fd1 fd2 fd3 fdk fd4 fd5 fd6 fd7 fd8 fd9 fde0 fde4 : FuncData} (EX : Exc K mg CB CD CW CM e0 e4 fde0 fde4) (A0 : At K mg "completed" sComp ["width", "masks"] f fd) (A1 : At K mg "is_int" sIsInt ["value"] f1 fd1) (A2 : At K mg "is_address" sIsAddr ["width", "value"] f2 fd2)
    (A3 : At K mg "are_addresses" sAreAddrs ["width", "value", "most"] f3 fd3) (AK : At K mg "are_masks" sAreMasks ["width", "value"] fk fdk) (A4 : At K mg "check_width" sCkWidth ["width"] f4 fd4) (A5 : At K mg "check_map" sCkMap ["width", "masks"] f5 fd5)
    (AM : At K mg "remainder" sRem ["rows", "vector"] f6 fd6) (AR : At K mg "reduced" sRed ["vectors"] f7 fd7) (AP : At K mg "powers" sPowers ["width"] f8 fd8) (AI : At K mg "are_independent" sInd ["masks"] f9 fd9) (T : Txt K mg) :
    FnOk P w K mg base (L2.CX P w) 6 f fd ["width", "masks"] (spComp K CD) := by
  have G4 : FnOk P w K mg base CX0 3 f4 fd4 ["width"] spCkWidth := ok_ckWidth A4 A1 T
  have G5 : FnOk P w K mg base CX0 5 f5 fd5 ["width", "masks"] (spCkMap K) := ok_ckMap A5 A1 A2 A3 AK T
  have GP : FnOk P w K mg base CX0 1 f8 fd8 ["width"] spPowers := ok_powers AP T
  obtain ⟨fN, fdN, AN⟩ := T.isIndep
  have GN : FnOk P w K mg base CX0 3 fN fdN ["known", "vectors"] (spIndepN K) := ok_indepN AN AM AR T
  have GI : FnOk P w K mg base CX0 3 f9 fd9 ["masks"] (spInd K) := ok_ind AI AR AM T
  have GX : FnOk P w K mg base CX0 2 e4 fde4 ["self"] (spInit0 K) := ok_init4 EX
  refine A0.fn.okX scComp (fun vs H Q E h => ?_) (fun cdv A outer s H vs Q E hr h => ?_)
  · obtain ⟨wd, p, vv, rfl, _⟩ := h
    rfl
  · obtain ⟨wd, p, vv, rfl, w1, w2, hp, hl, hin, k, kx⟩ := h
    have hr1 : Room 1 _ := hr.mono (by decide)
    have hr2 : Room 2 _ := hr.mono (by decide)
    have hr3 : Room 3 _ := hr.mono (by decide)
    have hr5 : Room 5 _ := hr.mono (by decide)
    refine ⟨_, (pss_cons (ps_expr (pe_call G4 (hr.mono (by decide)) (by rfl) A4.mg A4.fn.kp A4.bi .nil pass0 (pa_cons (pv 0) pa_nil)))
      (pss_cons (ps_expr (pe_call G5 hr5 (by rfl) A5.mg A5.fn.kp A5.bi .nil pass0 (pa_cons (pv 0) (pa_cons (pv 1) pa_nil))))
      (pss_cons (ps_if (pt_not (pt_val (pe_call GI hr3 (by rfl) AI.mg AI.fn.kp AI.bi .nil pass0 (pa_cons (pv 1) pa_nil)))) (pss_one (ps_raise rfl (takes_of rfl rfl rfl rfl) (pmk_oex0 EX.oD EX.iD EX.tI GX hr3 EX.b4 .nil pass0 (by rfl) EX.gD))) pss_nil)
      (pss_one (ps_ret (pe_op op_catN (pv 1) (pe_call GN hr3 (by rfl) AN.mg AN.fn.kp AN.bi .nil pass0 (pa_cons (pv 1) (pa_cons (pe_call GP hr1 (by rfl) AP.mg AP.fn.kp AP.bi .nil pass0 (pa_cons (pv 0) pa_nil)) pa_nil))))))))), ?_⟩
    refine ⟨_, rfl, _, rfl, by omega, by omega, ?_⟩
    refine ⟨_, rfl, _, rfl, _, p, _, rfl, by omega, by omega, by rw [← nv_ints]; exact hp, by rw [List.length_map]; exact hl, inw_nv hin, fun H1 sm1 => ?_⟩
    refine ⟨_, rfl, p, vv, rfl, sm1 _ _ hp, by omega, fun H2 sm2 => ⟨_, rfl, ?_⟩⟩
    have sm12 := sm1.trans sm2
    by_cases hI : Indep vv
    case neg =>
      refine iteTb (by rw [decide_eq_false fun z => hI ((GF.indep_iff vv).mp z)]; rfl) ?_
      exact mkO_of0 EX.oD EX.noV (kx hI H2 sm12)
    refine iteFb (by rw [decide_eq_true ((GF.indep_iff vv).mpr hI)]; rfl) ?_
    refine ⟨_, rfl, _, rfl, _, rfl, wd, rfl, by omega, fun D H3 hD sm3 hd => ?_⟩
    have lp : ((List.range wd).map (2 ^ ·)).length = wd := by rw [List.length_map, List.length_range]
    refine ⟨p, D, vv, _, rfl, sm3 _ _ (sm12 _ _ hp), hd, by rw [lp]; omega, fun z H4 sm4 hz => ?_⟩
    have hpl := GF.pick_len ((List.range wd).map (2 ^ ·)) vv
    rw [lp] at hpl
    refine ⟨p, z, vv, _, rfl, rfl, sm4 _ _ (sm3 _ _ (sm12 _ _ hp)), hz, by omega, fun q' H5 sm5 hq' => ?_⟩
    rw [← GF.comp_pick hI] at hq'
    exact k hI q' H5 (((sm12.trans sm3).trans sm4).trans sm5) hq'

end
end X1.VD
set_option Elab.async false
set_option maxRecDepth 100000
set_option maxHeartbeats 8000000
set_option pp.maxSteps 600
namespace X1.VN
open X1.V
open X1.VP
open PySem L2
open GF (pc par pc_0 pc_eq par_lt InS Can Red)
open G (spInit spInit0 ClsFn FunD KxC Kept Flies mkO_of0)
abbrev sI0 : Stmt := inClass (top 1) 0
abbrev sI4 : Stmt := inClass (top 6) 0
/-- what the defs ask of the classes -/
structure Exc (K : PySem.W.Frag) (mg : Str → Option Value) (CB CD CW CM f0 f4 : Addr) (fd0 fd4 : FuncData) : Prop where
  gB : mg "BankError" = some (.ref CB)
  gD : mg "NotInvertible" = some (.ref CD)
  gW : mg "InvalidWidth" = some (.ref CW)
  gM : mg "InvalidMap" = some (.ref CM)
  oD : OexC K CD
  noV : PySem.W.findIn K (.ref CD) "value" = some none
  iD : PySem.W.findIn K (.ref CD) "__init__" = some (some (.ref f4))
  tI : PySem.W.typeIn K (.ref f4) = some (.type "function")
  F0 : FunD K "__init__" "BankError.__init__" sI0 f0 fd0
  b0 : Binds K fd0 ["self", "value"] [.none]
  F4 : FunD K "__init__" "NotInvertible.__init__" sI4 f4 fd4
  b4 : Binds K fd4 ["self"] []
  cB : ClsFn K CB f0 "__init__"
  kx : KxC K CD
  te : PySem.W.exmOne K (.ref CD) (.ref CB) = some true
  nW : PySem.W.kitOne K (.ref CD) (.ref CW) = some false
  nM : PySem.W.kitOne K (.ref CD) (.ref CM) = some false
section
variable {P : Program} {w : World} {K : PySem.W.Frag} {mg : Str → Option Value} {base : Heap}
theorem scI0 : FnScope ["self", "value"] ["self", "value"] (defScope sI0) := ⟨rfl, rfl, rfl, by decide +kernel, rfl, by decide +kernel, by decide +kernel⟩
theorem scI4 : FnScope ["self"] ["self"] (defScope sI4) := ⟨rfl, rfl, rfl, by decide +kernel, rfl, by decide +kernel, by decide +kernel⟩
theorem ok_init0 {CB CD CW CM f0 f4 : Addr} {fd0 fd4 : FuncData} (EX : Exc K mg CB CD CW CM f0 f4 fd0 fd4) : FnOk P w K mg base CX0 1 f0 fd0 ["self", "value"] (spInit K) := by
  refine EX.F0.ok scI0 (fun vs H Q E h => ?_) (fun cdv A outer s H vs Q E hr h => ?_)
  · obtain ⟨a, C, v, rfl, _⟩ := h
    rfl
  · obtain ⟨a, C, v, rfl, T, hno, ha, k⟩ := h
    refine ⟨_, pss_one (ps_ost (pv 0) (pv 1)), ?_⟩
    exact ⟨_, rfl, _, rfl, a, C, rfl, T, hno, .inl ⟨ha, k⟩⟩
theorem ok_init4 {CB CD CW CM f0 f4 : Addr} {fd0 fd4 : FuncData} (EX : Exc K mg CB CD CW CM f0 f4 fd0 fd4) : FnOk P w K mg base CX0 2 f4 fd4 ["self"] (spInit0 K) := by
  have G0 : FnOk P w K mg base CX0 1 f0 fd0 ["self", "value"] (spInit K) := ok_init0 EX
  refine EX.F4.ok scI4 (fun vs H Q E h => ?_) (fun cdv A outer s H vs Q E hr h => ?_)
  · obtain ⟨a, C, rfl, _⟩ := h
    rfl
  · obtain ⟨a, C, rfl, T, hno, ha, k⟩ := h
    refine ⟨_, pss_one (ps_expr (G.pe_clsfn G0 hr EX.cB (by rfl) EX.gB EX.b0 (dvs := [.non]) (.cons rfl .nil) pass0 (pa_cons (pv 0) pa_nil))), ?_⟩
    exact ⟨_, rfl, a, C, .non, rfl, T, hno, ha, k⟩
/-! ### are_independent -/
def spInd (K : PySem.W.Frag) : Sp := fun vs H Q _ => ∃ (p : Addr) (vv : List Nat), vs = [.ref p] ∧ H p = some (.tup (nv vv)) ∧ vv.length ≤ 1000 ∧ ∀ H', Same H H' → Q (.bl (decide ((GF.red0 vv).length = vv.length))) H'
theorem scInd : FnScope ["masks"] ["masks"] (defScope sInd) := ⟨rfl, rfl, rfl, by decide +kernel, rfl, by decide +kernel, by decide +kernel⟩
theorem ok_ind {f f1 f2 : Addr} {fd fd1 fd2 : FuncData} (A0 : At K mg "are_independent" sInd ["masks"] f fd) (AR : At K mg "reduced" sRed ["vectors"] f1 fd1) (AM : At K mg "remainder" sRem ["rows", "vector"] f2 fd2) (T : Txt K mg) :
    FnOk P w K mg base CX0 3 f fd ["masks"] (spInd K) := by
  have GR : FnOk P w K mg base CX0 2 f1 fd1 ["vectors"] (spRed K true) := ok_redT AR AM T
  refine A0.fn.ok scInd (fun vs H Q E h => ?_) (fun cdv A outer s H vs Q E hr h => ?_)
  · obtain ⟨p, vv, rfl, _⟩ := h
    rfl
  · obtain ⟨p, vv, rfl, hp, hl, k⟩ := h
    refine ⟨_, pss_one (ps_ret (pe_cmpR op_eq (pe_callB call_len_seq (by rfl) T.len PySem.boot_len (pa_cons (pe_call GR hr (by rfl) AR.mg AR.fn.kp AR.bi .nil pass0 (pa_cons (pv 0) pa_nil)) pa_nil)) (pe_callB call_len_seq (by rfl) T.len PySem.boot_len (pa_cons (pv 0) pa_nil)) (nomark _))), ?_⟩
    refine ⟨_, rfl, p, vv, rfl, (by show (if true = true then SqT K H p (nv vv) else SqL K H p (nv vv)); exact SqT.of hp), hl, fun q L H1 _ sm hq _ RL _ sL => ?_⟩
    refine ⟨q, _, rfl, .inr (SqT.of hq), _, rfl, p, _, rfl, .inr (SqT.of (sm _ _ hp)), rfl, ?_⟩
    have e : L.length = (GF.red0 vv).length := GF.indep_len (GF.red_indep RL) (GF.red_indep (GF.red0_red vv)) fun x => (sL x).trans (GF.red0_span vv x).symm
    refine qv ?_ (k H1 sm)
    rw [nv_len, nv_len, e]
    congr 1
    rw [Bool.eq_iff_iff, decide_eq_true_iff, decide_eq_true_iff]
    exact ⟨fun z => Int.ofNat_inj.mp (V.int.inj z), fun z => by rw [z]⟩
end
end X1.VN
set_option Elab.async false
set_option maxRecDepth 100000
set_option maxHeartbeats 8000000
set_option pp.maxSteps 600
namespace X1.VN
open X1.V
open X1.VP
open PySem L2
open GF (pc par pc_0 pc_eq par_lt InS Can Red Indep comb lift InvM)
open G (spInit spInit0 ClsFn FunD KxC Kept Flies mkO_of0)
/-! ### tuples of numbers, put together -/
theorem red_le {L : List Nat} {w : Nat} (R : Red L) (hw : ∀ r ∈ L, r < 2 ^ w) : L.length ≤ w := by
  have dec : ∀ j, Decidable (GF.isFree L j) := fun j => Classical.propDecidable _
  have := GF.free_count R hw (js := (List.range w).filter fun j => @decide (GF.isFree L j) (dec j)) (List.nodup_range.sublist List.filter_sublist) fun j => by rw [List.mem_filter, List.mem_range, decide_eq_true_iff]
  omega
theorem nv_app (a b : List Nat) : nv (a ++ b) = nv a ++ nv b := by unfold nv; rw [List.map_append]
theorem nv_nil {l : List Nat} (h : nv l = []) : l = [] := by
  unfold nv at h
  exact List.map_eq_nil_iff.mp h
section
variable {X : Cx}
def rCatN (K : PySem.W.Frag) : R2 := fun x y H Q => ∃ (a b : Addr) (xs ys : List Nat), x = .ref a ∧ y = .ref b ∧ H a = some (.tup (nv xs)) ∧ H b = some (.tup (nv ys)) ∧ xs.length + ys.length ≤ 1000 ∧ ∀ (r : Addr) (H' : Hp), Same H H' → H' r = some (.tup (nv (xs ++ ys))) → Q (.ref r) H'
theorem op_catN : OpR X (binaryOp .Add) (rCatN X.K) := fun pins s σ H x y v u Q I rx ry h => op_catA pins s σ H x y v u Q I rx ry (by
  obtain ⟨a, b, xs, ys, rfl, rfl, ha, hb, hl, k⟩ := h
  refine ⟨a, b, nv xs, nv ys, rfl, rfl, SqT.of ha, SqT.of hb, by rw [nv_len, nv_len]; exact Nat.le_trans hl (by decide), fun e => ?_, fun _ e => ?_, fun _ _ p hp => ?_⟩
  · have e := nv_nil e
    subst e
    exact k b H (Same.refl H) hb
  · have e := nv_nil e
    subst e
    exact k a H (Same.refl H) (by rw [List.append_nil]; exact ha)
  · exact k p _ (keep_new (Same.refl H) hp) (by rw [upd_same, nv_app]))
end
section
variable {P : Program} {w : World} {K : PySem.W.Frag} {mg : Str → Option Value} {base : Heap}
/-! ### recoded -/
def Made (vv os R : List Nat) : Prop := R.length = os.length ∧ ∀ (j r o : Nat), R[j]? = some r → os[j]? = some o → r < 2 ^ vv.length ∧ comb vv r = o
def spRec (K : PySem.W.Frag) : Sp := fun vs H Q _ => ∃ (p q : Addr) (vv os : List Nat), vs = [.ref p, .ref q] ∧ H p = some (.tup (nv vv)) ∧ H q = some (.lst (nv os)) ∧ vv.length ≤ 16 ∧ os.length ≤ 16 ∧ (∀ v ∈ vv, v < 65536) ∧ (∀ v ∈ os, v < 65536) ∧
  ((∀ o ∈ os, InS vv o) → ∀ (R : List Nat) (t : Addr) (H' : Hp), Made vv os R → Same H H' → H' t = some (.tup (nv R)) → Q (.ref t) H') ∧ ((¬ ∀ o ∈ os, InS vv o) → ∀ H', Same H H' → Q .non H')
theorem scRec : FnScope ["masks", "others", "size", "rows", "made", "index", "mask", "other", "choice"] ["masks", "others"] (defScope sRec) := ⟨rfl, rfl, rfl, by decide +kernel, rfl, by decide +kernel, by decide +kernel⟩
theorem lift_next {vv : List Nat} {n i v : Nat} (h : vv[i]? = some v) : (lift vv n).take i ++ [v * 2 ^ n ^^^ 2 ^ i] = (lift vv n).take (i + 1) := by
  have e := GF.liftA_at n 0 vv i
  rw [h, Nat.zero_add] at e
  rw [List.take_add_one]
  unfold lift
  rw [e]
  rfl
theorem lift_cast {v n i : Nat} (h : i < n) : Builtin.bitOr ((v : Int) * 2 ^ n) ((1 : Int) * 2 ^ i) = ((v * 2 ^ n ^^^ 2 ^ i : Nat) : Int) := by
  have e2 : (1 : Int) * 2 ^ i = ((2 ^ i : Nat) : Int) := by rw [Int.one_mul, pow_cast]
  have z : (v * 2 ^ n).testBit i = false := by
    rw [Nat.mul_comm, Nat.testBit_two_pow_mul, decide_eq_false (by omega)]
    rfl
  rw [e2, or_low (Int.natCast_nonneg v) (Int.natCast_nonneg _) (by rw [← pow_cast]; exact Int.ofNat_lt.mpr (Nat.pow_lt_pow_right (by decide) h)), ← GF.add_pow z, Int.natCast_add, Int.natCast_mul, pow_cast, pow_cast]
theorem ok_rec {f f1 f2 : Addr} {fd fd1 fd2 : FuncData} (A0 : At K mg "recoded" sRec ["masks", "others"] f fd) (AR : At K mg "reduced" sRed ["vectors"] f1 fd1) (AM : At K mg "remainder" sRem ["rows", "vector"] f2 fd2) (T : Txt K mg) :
    FnOk P w K mg base CX0 3 f fd ["masks", "others"] (spRec K) := by
  have GR : FnOk P w K mg base CX0 2 f1 fd1 ["vectors"] (spRed K false) := ok_redL AR AM T
  have GM : FnOk P w K mg base CX0 1 f2 fd2 ["rows", "vector"] (spRemT K) := ok_remT AM T
  refine A0.fn.ok scRec (fun vs H Q E h => ?_) (fun cdv A outer s H vs Q E hr h => ?_)
  · obtain ⟨p, q, vv, os, rfl, _⟩ := h
    rfl
  · obtain ⟨p, q, vv, os, rfl, hp, hq, l1, l2, b1, b2, k, kn⟩ := h
    have hr1 : Room 1 _ := hr.mono (by decide)
    have hr2 : Room 2 _ := hr.mono (by decide)
    refine ⟨_, (pss_cons (ps_set (i := 2) scRec.nd rfl (Or.inr rfl) (pe_callB call_len_seq (by rfl) T.len PySem.boot_len (pa_cons (pv 0) pa_nil)))
      (pss_cons (ps_set (i := 3) scRec.nd rfl (Or.inr rfl) (pe_call GR hr2 (by rfl) AR.mg AR.fn.kp AR.bi .nil pass0 (pa_cons (pe_lc (own := [("index", 5), ("mask", 6)]) (g := gTup K 2 (gCons (gName 5) (gCons (gName 6) (gNil)))) (tt := tYes) rfl scRec.nd (G.pi_enumT (by rfl) T.enum (pa_cons (pv 0) pa_nil)) (blkOk_by (N := ["masks", "others", "size", "rows", "made", "index", "mask", "other", "choice"]) (sc := defScope sRec) (by decide +kernel)) (fun _ _ _ _ _ => by exact pg_tup rfl (pgs_cons (pg_name (i := 5) scRec.nd rfl (Or.inl rfl)) (pgs_cons (pg_name (i := 6) scRec.nd rfl (Or.inl rfl)) pgs_nil))) (fun _ _ _ _ _ => pts_nil) (fun _ _ _ _ _ => (pe_op op_or (pe_op op_shl (pv 6) (pv 2)) (pe_op op_shl pe_int (pv 5))))) pa_nil)))
      (pss_cons (ps_setLc (i := 4) (own := [("other", 7)]) (g := gName 7) (tt := tYes) rfl scRec.nd rfl rfl (sw_true rfl rfl rfl (by decide +kernel)) (pi_list (pv 1)) (blkOk_by (N := ["masks", "others", "size", "rows", "made", "index", "mask", "other", "choice"]) (sc := defScope sRec) (by decide +kernel)) (fun _ _ _ _ _ => pg_name (i := 7) scRec.nd rfl (Or.inl rfl)) (fun _ _ _ _ _ => pts_nil) (fun _ _ _ _ _ => (pe_call GM hr1 (by rfl) AM.mg AM.fn.kp AM.bi .nil pass0 (pa_cons (pv 3) (pa_cons (pe_op op_shl (pv 7) (pv 2)) pa_nil)))))
      (pss_cons (ps_if (pt_val (pe_callB (G.cr_anyI rfl) (by rfl) T.any (by decide +kernel) (pa_cons (pe_lc (own := [("choice", 8)]) (g := gName 8) (tt := tYes) rfl scRec.nd (pi_list (pv 4)) (blkOk_by (N := ["masks", "others", "size", "rows", "made", "index", "mask", "other", "choice"]) (sc := defScope sRec) (by decide +kernel)) (fun _ _ _ _ _ => pg_name (i := 8) scRec.nd rfl (Or.inl rfl)) (fun _ _ _ _ _ => pts_nil) (fun _ _ _ _ _ => (pe_op op_shr (pv 8) (pv 2)))) pa_nil))) (pss_one (ps_ret pe_non)) pss_nil)
      (pss_one (ps_ret (pe_callTy call_tuple_of (by rfl) T.tuple (by decide +kernel) (pa_cons (pv 4) pa_nil)))))))), ?_⟩
    refine ⟨_, rfl, p, _, rfl, .inr (SqT.of hp), ?_⟩
    rw [nv_len]
    generalize hn : vv.length = n at l1
    refine ⟨_, rfl, p, _, rfl, SqT.of hp, fun D hD => ?_⟩
    have npD : p ≠ D := ne_of_none hp hD
    refine lc_it (G.walk_enumT (K := K) (a := p) (xs := nv vv)) (fun i H' => (∀ b o, b ≠ D → H b = some o → H' b = some o) ∧ H' D = some (.lst (nv ((lift vv n).take i)))) ⟨fun b o n e => by rw [upd_ne n]; exact e, upd_same⟩
      (fun i H' _ ⟨s1, _⟩ => SqT.of (s1 _ _ npD hp)) ?_ ?_
    · rintro i x H1 H2 hi ⟨s1, hd⟩ ⟨Tp, x1, x2, rfl, hT, rfl, e1, e2⟩
      cases e1
      obtain ⟨m, em, rfl, hil⟩ := nv_at e2
      have hm := b1 m (List.mem_of_getElem? em)
      have nTD : D ≠ Tp := ne_of_none hd hT
      refine ⟨Tp, _, rfl, SqT.of upd_same, rfl, _, _, rfl, _, _, rfl, rfl, rfl, yes (iteT ?_)⟩
      refine ⟨_, rfl, _, rfl, _, _, rfl, rfl, ⟨by omega, by omega, by omega⟩, _, rfl, _, _, rfl, rfl, ⟨by omega, by omega, by decide⟩, _, _, rfl, rfl, _, by rw [upd_ne nTD]; exact hd, ?_, ?_, ?_⟩
      · rw [nv_len, List.length_take]
        exact Nat.lt_of_le_of_lt (Nat.min_le_left _ _) (Nat.lt_trans hil (Nat.lt_of_le_of_lt (hn ▸ l1) (by decide)))
      · intro b o n e
        rw [upd_ne n, upd_ne (ne_of_none (s1 b o n e) hT)]
        exact s1 b o n e
      · rw [upd_same, ← lift_next em]
        unfold nv
        rw [List.map_append]
        show some (HO.lst (_ ++ [V.int (Builtin.bitOr ((m : Int) * 2 ^ ((n : Int)).toNat) ((1 : Int) * 2 ^ ((i : Int)).toNat))])) = _
        rw [Int.toNat_natCast, Int.toNat_natCast, lift_cast (by omega)]
        rfl
    rintro H1 ⟨s1, hd1⟩
    have sm1 : Same H H1 := fun c u e => s1 c u (ne_of_none e hD) e
    have ll : (lift vv n).length = n := (GF.liftA_len n 0 vv).trans hn
    rw [nv_len, hn, List.take_of_length_le (by rw [ll]; exact Nat.le_refl _)] at hd1
    refine ⟨D, _, rfl, SqL.of hd1, by omega, fun rA L H2 _ sm2 hr2' _ RL _ hL => ⟨_, rfl, ?_⟩⟩
    have sm12 := sm1.trans sm2
    have hq2 := sm12 _ _ hq
    refine ⟨q, rfl, ⟨_, SqL.of hq2⟩, fun D2 hD2 => ?_⟩
    have nqD : q ≠ D2 := ne_of_none hq2 hD2
    have nrD : rA ≠ D2 := ne_of_none hr2' hD2
    let g : Nat → Nat := fun o => GF.rem L (o * 2 ^ n)
    refine lc_list (K := K) (a := q) (xs := nv os) (fun i H' => (∀ b o, b ≠ D2 → H2 b = some o → H' b = some o) ∧ H' D2 = some (.lst (nv ((os.take i).map g)))) ⟨fun b o n e => by rw [upd_ne n]; exact e, upd_same⟩
      (fun i H' _ ⟨s2, _⟩ => SqL.of (s2 _ _ nqD hq2)) ?_ ?_
    · rintro i x H3 hx ⟨s2, hd⟩
      obtain ⟨o, eo, rfl, hi⟩ := nv_at hx
      have ho := b2 o (List.mem_of_getElem? eo)
      refine ⟨rfl, yes (iteT ?_)⟩
      refine ⟨_, rfl, _, rfl, _, rfl, _, _, rfl, rfl, ⟨by omega, by omega, by omega⟩, rA, L, o * 2 ^ n, ?_, SqT.of (s2 _ _ nrD hr2'), _, hd, ?_, ?_, ?_⟩
      · rw [Int.natCast_mul, pow_cast]
        rfl
      · rw [nv_len, List.length_map, List.length_take]
        exact Nat.lt_of_le_of_lt (Nat.min_le_right _ _) (Nat.lt_of_le_of_lt l2 (by decide))
      · exact fun b o n e => by rw [upd_ne n]; exact s2 b o n e
      · rw [upd_same, List.take_add_one, eo, List.map_append, nv_app]
        rfl
    rintro H3 ⟨s2, hd3⟩
    rw [nv_len, List.take_of_length_le (Nat.le_refl _)] at hd3
    have sm3 : Same H H3 := sm12.trans fun c u e => s2 c u (ne_of_none e hD2) e
    have key : ∀ o ∈ os, (g o < 2 ^ n ↔ InS vv o) ∧ (g o < 2 ^ n → comb vv (g o) = o ∧ g o < 2 ^ vv.length) := fun o _ => GF.rem_lift (by omega) RL hL
    refine ⟨_, rfl, ?_⟩
    refine ⟨D2, rfl, ⟨_, SqL.of hd3⟩, fun D4 hD4 => ?_⟩
    have nDD : D2 ≠ D4 := ne_of_none hd3 hD4
    refine lc_list (K := K) (a := D2) (xs := nv (os.map g)) (fun i H' => (∀ b o, b ≠ D4 → H3 b = some o → H' b = some o) ∧ H' D4 = some (.lst ((((os.map g).take i).map fun x : Nat => ((x : Int) / 2 ^ n)).map V.int))) ⟨fun b o n e => by rw [upd_ne n]; exact e, upd_same⟩
      (fun i H' _ ⟨s3, _⟩ => SqL.of (s3 _ _ nDD hd3)) ?_ ?_
    · rintro i x H4 hx ⟨s3, hd⟩
      obtain ⟨o, eo, rfl, hi⟩ := nv_at hx
      refine ⟨rfl, yes (iteT ?_)⟩
      refine ⟨_, rfl, _, rfl, _, _, rfl, rfl, by omega, _, hd, ?_, ?_, ?_⟩
      · rw [List.length_map, List.length_map, List.length_take]
        exact Nat.lt_of_le_of_lt (Nat.min_le_left _ _) (Nat.lt_trans hi (Nat.lt_of_le_of_lt (by rw [List.length_map]; exact l2) (by decide)))
      · exact fun b o n e => by rw [upd_ne n]; exact s3 b o n e
      · rw [upd_same, List.take_add_one, eo, List.map_append, List.map_append]
        rfl
    rintro H4 ⟨s3, hd4⟩
    rw [nv_len, List.take_of_length_le (Nat.le_refl _)] at hd4
    have sm4 : Same H H4 := sm3.trans fun c u e => s3 c u (ne_of_none e hD4) e
    refine ⟨D4, _, rfl, SqL.of hd4, _, rfl, ?_⟩
    have h3 := s3 _ _ nDD hd3
    by_cases c : ∀ o ∈ os, InS vv o
    · refine iteFb ?_ ?_
      · rw [List.any_eq_false]
        intro x hx
        obtain ⟨y, hy, rfl⟩ := List.mem_map.mp hx
        obtain ⟨o, ho, rfl⟩ := List.mem_map.mp hy
        have h := ((key o ho).1).mpr (c o ho)
        have e : ((g o : Nat) : Int) / 2 ^ n = 0 := by
          rw [← pow_cast, ← Int.natCast_ediv, Nat.div_eq_of_lt h]
          rfl
        rw [e]
        decide
      · refine ⟨_, rfl, D2, _, rfl, .inl ⟨SqL.of h3, fun t ht => ?_⟩⟩
        refine k c (os.map g) t _ ⟨List.length_map .., fun j r o hj ho => ?_⟩ (keep_new sm4 ht) upd_same
        rw [List.getElem?_map, ho] at hj
        cases hj
        have hm := List.mem_of_getElem? ho
        obtain ⟨h1, h2⟩ := key o hm
        obtain ⟨h3, h4⟩ := h2 (h1.mpr (c o hm))
        exact ⟨h4, h3⟩
    · refine iteTb ?_ (kn c H4 sm4)
      rw [List.any_eq_true]
      refine Classical.byContradiction fun z => c fun o ho => ((key o ho).1).mp ?_
      refine Nat.lt_of_not_le fun ge => z ⟨((g o : Nat) : Int) / 2 ^ n, List.mem_map.mpr ⟨g o, List.mem_map.mpr ⟨o, ho, rfl⟩, rfl⟩, ?_⟩
      rw [← pow_cast, ← Int.natCast_ediv]
      have : 1 ≤ g o / 2 ^ n := (Nat.le_div_iff_mul_le (Nat.two_pow_pos n)).mpr (by rw [Nat.one_mul]; exact ge)
      simp only [bne_iff_ne, ne_eq]
      omega
/-! ### inverse -/
def Good (wd : Nat) (vv : List Nat) : Prop := vv.length = wd ∧ Indep vv
def spInv (K : PySem.W.Frag) (CD : Addr) : Sp := fun vs H Q E => ∃ (wd : Nat) (p : Addr) (vv : List Nat), vs = [.int (wd : Int), .ref p] ∧ 1 ≤ wd ∧ wd ≤ 16 ∧ H p = some (.tup (nv vv)) ∧ vv.length ≤ 16 ∧ (∀ v ∈ vv, v < 2 ^ wd) ∧
  (Good wd vv → ∀ (R : List Nat) (q : Addr) (H' : Hp), InvM vv R wd → Same H H' → H' q = some (.tup (nv R)) → Q (.ref q) H') ∧ (¬ Good wd vv → ∀ H', Same H H' → Flies CD .non E H')
theorem scInv : FnScope ["width", "masks"] ["width", "masks"] (defScope sInv) := ⟨rfl, rfl, rfl, by decide +kernel, rfl, by decide +kernel, by decide +kernel⟩
theorem p16 {wd v : Nat} (h : wd ≤ 16) (hv : v < 2 ^ wd) : v < 65536 := Nat.lt_of_lt_of_le hv (by
  have e : ∀ j : Nat, j < 17 → 2 ^ j ≤ 65536 := by decide
  exact e wd (by omega))
theorem ok_inv {f f1 f2 f3 fk f4 f5 f6 f7 f8 f9 f10 CB CD CW CM e0 e4 : Addr} {fd fd1 fd2 fd3 fdk fd4 fd5 fd6 fd7 fd8 fd9 fd10 fde0 fde4 : FuncData} (EX : Exc K mg CB CD CW CM e0 e4 fde0 fde4) (A0 : At K mg "inverse" sInv ["width", "masks"] f fd) (A1 : At K mg "is_int" sIsInt ["value"] f1 fd1) (A2 : At K mg "is_address" sIsAddr ["width", "value"] f2 fd2)
    (A3 : At K mg "are_addresses" sAreAddrs ["width", "value", "most"] f3 fd3) (AK : At K mg "are_masks" sAreMasks ["width", "value"] fk fdk) (A4 : At K mg "check_width" sCkWidth ["width"] f4 fd4) (A5 : At K mg "check_map" sCkMap ["width", "masks"] f5 fd5)
    (AM : At K mg "remainder" sRem ["rows", "vector"] f6 fd6) (AR : At K mg "reduced" sRed ["vectors"] f7 fd7) (AP : At K mg "powers" sPowers ["width"] f8 fd8) (AI : At K mg "are_independent" sInd ["masks"] f9 fd9) (AC : At K mg "recoded" sRec ["masks", "others"] f10 fd10) (T : Txt K mg) :
    FnOk P w K mg base (L2.CX P w) 6 f fd ["width", "masks"] (spInv K CD) := by
  have G4 : FnOk P w K mg base CX0 3 f4 fd4 ["width"] spCkWidth := ok_ckWidth A4 A1 T
  have G5 : FnOk P w K mg base CX0 5 f5 fd5 ["width", "masks"] (spCkMap K) := ok_ckMap A5 A1 A2 A3 AK T
  have GP : FnOk P w K mg base CX0 1 f8 fd8 ["width"] spPowers := ok_powers AP T
  have GI : FnOk P w K mg base CX0 3 f9 fd9 ["masks"] (spInd K) := ok_ind AI AR AM T
  have GC : FnOk P w K mg base CX0 3 f10 fd10 ["masks", "others"] (spRec K) := ok_rec AC AR AM T
  have GX : FnOk P w K mg base CX0 2 e4 fde4 ["self"] (spInit0 K) := ok_init4 EX
  refine A0.fn.okX scInv (fun vs H Q E h => ?_) (fun cdv A outer s H vs Q E hr h => ?_)
  · obtain ⟨wd, p, vv, rfl, _⟩ := h
    rfl
  · obtain ⟨wd, p, vv, rfl, w1, w2, hp, hl, hin, k, kx⟩ := h
    have hr1 : Room 1 _ := hr.mono (by decide)
    have hr2 : Room 2 _ := hr.mono (by decide)
    have hr3 : Room 3 _ := hr.mono (by decide)
    have hr5 : Room 5 _ := hr.mono (by decide)
    refine ⟨_, (pss_cons (ps_expr (pe_call G4 (hr.mono (by decide)) (by rfl) A4.mg A4.fn.kp A4.bi .nil pass0 (pa_cons (pv 0) pa_nil)))
      (pss_cons (ps_expr (pe_call G5 hr5 (by rfl) A5.mg A5.fn.kp A5.bi .nil pass0 (pa_cons (pv 0) (pa_cons (pv 1) pa_nil))))
      (pss_cons (ps_if (PW.pt (pw_or (pt_cmpR op_ne (pe_callB call_len_seq (by rfl) T.len PySem.boot_len (pa_cons (pv 1) pa_nil)) (pv 0) (nomark _)) (pw_or1 (pt_not (pt_val (pe_call GI hr3 (by rfl) AI.mg AI.fn.kp AI.bi .nil pass0 (pa_cons (pv 1) pa_nil))))))) (pss_one (ps_raise rfl (takes_of rfl rfl rfl rfl) (pmk_oex0 EX.oD EX.iD EX.tI GX hr3 EX.b4 .nil pass0 (by rfl) EX.gD))) pss_nil)
      (pss_one (ps_ret (pe_call GC hr3 (by rfl) AC.mg AC.fn.kp AC.bi .nil pass0 (pa_cons (pv 1) (pa_cons (pe_call GP hr1 (by rfl) AP.mg AP.fn.kp AP.bi .nil pass0 (pa_cons (pv 0) pa_nil)) pa_nil)))))))), ?_⟩
    refine ⟨_, rfl, _, rfl, by omega, by omega, ?_⟩
    refine ⟨_, rfl, _, rfl, _, p, _, rfl, by omega, by omega, by rw [← nv_ints]; exact hp, by rw [List.length_map]; exact hl, inw_nv hin, fun H1 sm1 => ?_⟩
    refine ⟨_, rfl, p, _, rfl, .inr (SqT.of (sm1 _ _ hp)), _, rfl, ?_⟩
    rw [nv_len]
    refine ⟨rfl, _, rfl, ?_⟩
    by_cases cl : vv.length = wd
    case neg =>
      refine iteTb (by rw [decide_eq_false fun z => cl (Int.ofNat_inj.mp (V.int.inj z))]; rfl) ?_
      exact mkO_of0 EX.oD EX.noV (kx (fun z => cl z.1) H1 sm1)
    refine iteFb (by rw [decide_eq_true (by rw [cl])]; rfl) ?_
    refine ⟨_, rfl, p, vv, rfl, sm1 _ _ hp, by omega, fun H2 sm2 => ⟨_, rfl, ?_⟩⟩
    have sm12 := sm1.trans sm2
    by_cases hI : Indep vv
    case neg =>
      refine iteTb (by rw [decide_eq_false fun z => hI ((GF.indep_iff vv).mp z)]; rfl) ?_
      exact mkO_of0 EX.oD EX.noV (kx (fun z => hI z.2) H2 sm12)
    refine iteFb (by rw [decide_eq_true ((GF.indep_iff vv).mpr hI)]; rfl) ?_
    refine ⟨_, rfl, _, rfl, wd, rfl, by omega, fun D H3 hD sm3 hd => ?_⟩
    refine ⟨p, D, vv, _, rfl, sm3 _ _ (sm12 _ _ hp), hd, hl, by rw [List.length_map, List.length_range]; exact w2, fun v hv => p16 w2 (hin v hv), fun v hv => ?_, fun hin' R t H4 mR sm4 ht => ?_, fun hno => ?_⟩
    · obtain ⟨j, hj, rfl⟩ := List.mem_map.mp hv
      exact p16 w2 (Nat.pow_lt_pow_right (by decide) (List.mem_range.mp hj))
    · refine k ⟨cl, hI⟩ R t H4 ⟨by rw [mR.1, List.length_map, List.length_range], fun j r hj => ?_⟩ ((sm12.trans sm3).trans sm4) ht
      have hjl : j < wd := by
        have := (List.getElem?_eq_some_iff.mp hj).1
        rw [mR.1, List.length_map, List.length_range] at this
        exact this
      have := mR.2 j r (2 ^ j) hj (by rw [List.getElem?_map, List.getElem?_range hjl]; rfl)
      rw [cl] at this
      exact this
    · refine absurd (fun o ho => ?_) hno
      obtain ⟨j, hj, rfl⟩ := List.mem_map.mp ho
      exact (GF.full_span hI cl hin _).mpr (Nat.pow_lt_pow_right (by decide) (List.mem_range.mp hj))
end
end X1.VN
set_option Elab.async false
set_option maxRecDepth 100000
set_option maxHeartbeats 8000000
set_option pp.maxSteps 600
namespace X1.VR
open X1.V
open X1.VP
open PySem L2
open GF (pc par pc_0 pc_eq par_lt InS Can Red Indep comb lift InvM bk)
/-! ### tuples of numbers, put together -/
theorem nv_app (a b : List Nat) : nv (a ++ b) = nv a ++ nv b := by unfold nv; rw [List.map_append]
theorem nv_nil {l : List Nat} (h : nv l = []) : l = [] := by
  unfold nv at h
  exact List.map_eq_nil_iff.mp h
section
variable {X : Cx}
def rCatN (K : PySem.W.Frag) : R2 := fun x y H Q => ∃ (a b : Addr) (xs ys : List Nat), x = .ref a ∧ y = .ref b ∧ H a = some (.tup (nv xs)) ∧ H b = some (.tup (nv ys)) ∧ xs.length + ys.length ≤ 1000 ∧ ∀ (r : Addr) (H' : Hp), Same H H' → H' r = some (.tup (nv (xs ++ ys))) → Q (.ref r) H'
theorem op_catN : OpR X (binaryOp .Add) (rCatN X.K) := fun pins s σ H x y v u Q I rx ry h => op_catA pins s σ H x y v u Q I rx ry (by
  obtain ⟨a, b, xs, ys, rfl, rfl, ha, hb, hl, k⟩ := h
  refine ⟨a, b, nv xs, nv ys, rfl, rfl, SqT.of ha, SqT.of hb, by rw [nv_len, nv_len]; exact Nat.le_trans hl (by decide), fun e => ?_, fun _ e => ?_, fun _ _ p hp => ?_⟩
  · have e := nv_nil e
    subst e
    exact k b H (Same.refl H) hb
  · have e := nv_nil e
    subst e
    exact k a H (Same.refl H) (by rw [List.append_nil]; exact ha)
  · exact k p _ (keep_new (Same.refl H) hp) (by rw [upd_same, nv_app]))
end
section
variable {P : Program} {w : World} {K : PySem.W.Frag} {mg : Str → Option Value} {base : Heap}
/-! ### recoded -/
def Made (vv os R : List Nat) : Prop := R.length = os.length ∧ ∀ (j r o : Nat), R[j]? = some r → os[j]? = some o → r < 2 ^ vv.length ∧ comb vv r = o
def spRec (K : PySem.W.Frag) : Sp := fun vs H Q _ => ∃ (p q : Addr) (vv os : List Nat), vs = [.ref p, .ref q] ∧ H p = some (.tup (nv vv)) ∧ H q = some (.tup (nv os)) ∧ vv.length ≤ 16 ∧ os.length ≤ 16 ∧ (∀ v ∈ vv, v < 65536) ∧ (∀ v ∈ os, v < 65536) ∧
  ((∀ o ∈ os, InS vv o) → ∀ (R : List Nat) (t : Addr) (H' : Hp), Made vv os R → Same H H' → H' t = some (.tup (nv R)) → Q (.ref t) H') ∧ ((¬ ∀ o ∈ os, InS vv o) → ∀ H', Same H H' → Q .non H')
theorem scRec : FnScope ["masks", "others", "size", "rows", "made", "index", "mask", "other", "choice"] ["masks", "others"] (defScope sRec) := ⟨rfl, rfl, rfl, by decide +kernel, rfl, by decide +kernel, by decide +kernel⟩
theorem lift_next {vv : List Nat} {n i v : Nat} (h : vv[i]? = some v) : (lift vv n).take i ++ [v * 2 ^ n ^^^ 2 ^ i] = (lift vv n).take (i + 1) := by
  have e := GF.liftA_at n 0 vv i
  rw [h, Nat.zero_add] at e
  rw [List.take_add_one]
  unfold lift
  rw [e]
  rfl
theorem lift_cast {v n i : Nat} (h : i < n) : Builtin.bitOr ((v : Int) * 2 ^ n) ((1 : Int) * 2 ^ i) = ((v * 2 ^ n ^^^ 2 ^ i : Nat) : Int) := by
  have e2 : (1 : Int) * 2 ^ i = ((2 ^ i : Nat) : Int) := by rw [Int.one_mul, pow_cast]
  have z : (v * 2 ^ n).testBit i = false := by
    rw [Nat.mul_comm, Nat.testBit_two_pow_mul, decide_eq_false (by omega)]
    rfl
  rw [e2, or_low (Int.natCast_nonneg v) (Int.natCast_nonneg _) (by rw [← pow_cast]; exact Int.ofNat_lt.mpr (Nat.pow_lt_pow_right (by decide) h)), ← GF.add_pow z, Int.natCast_add, Int.natCast_mul, pow_cast, pow_cast]
theorem ok_rec {f f1 f2 : Addr} {fd fd1 fd2 : FuncData} (A0 : At K mg "recoded" sRec ["masks", "others"] f fd) (AR : At K mg "reduced" sRed ["vectors"] f1 fd1) (AM : At K mg "remainder" sRem ["rows", "vector"] f2 fd2) (T : Txt K mg) :
    FnOk P w K mg base CX0 3 f fd ["masks", "others"] (spRec K) := by
  have GR : FnOk P w K mg base CX0 2 f1 fd1 ["vectors"] (spRed K false) := ok_redL AR AM T
  have GM : FnOk P w K mg base CX0 1 f2 fd2 ["rows", "vector"] (spRemT K) := ok_remT AM T
  refine A0.fn.ok scRec (fun vs H Q E h => ?_) (fun cdv A outer s H vs Q E hr h => ?_)
  · obtain ⟨p, q, vv, os, rfl, _⟩ := h
    rfl
  · obtain ⟨p, q, vv, os, rfl, hp, hq, l1, l2, b1, b2, k, kn⟩ := h
    have hr1 : Room 1 _ := hr.mono (by decide)
    have hr2 : Room 2 _ := hr.mono (by decide)
    refine ⟨_, (pss_cons (ps_set (i := 2) scRec.nd rfl (Or.inr rfl) (pe_callB call_len_seq (by rfl) T.len PySem.boot_len (pa_cons (pv 0) pa_nil)))
      (pss_cons (ps_set (i := 3) scRec.nd rfl (Or.inr rfl) (pe_call GR hr2 (by rfl) AR.mg AR.fn.kp AR.bi .nil pass0 (pa_cons (pe_lc (own := [("index", 5), ("mask", 6)]) (g := gTup K 2 (gCons (gName 5) (gCons (gName 6) (gNil)))) (tt := tYes) rfl scRec.nd (G.pi_enumT (by rfl) T.enum (pa_cons (pv 0) pa_nil)) (blkOk_by (N := ["masks", "others", "size", "rows", "made", "index", "mask", "other", "choice"]) (sc := defScope sRec) (by decide +kernel)) (fun _ _ _ _ _ => by exact pg_tup rfl (pgs_cons (pg_name (i := 5) scRec.nd rfl (Or.inl rfl)) (pgs_cons (pg_name (i := 6) scRec.nd rfl (Or.inl rfl)) pgs_nil))) (fun _ _ _ _ _ => pts_nil) (fun _ _ _ _ _ => (pe_op op_or (pe_op op_shl (pv 6) (pv 2)) (pe_op op_shl pe_int (pv 5))))) pa_nil)))
      (pss_cons (ps_setLc (i := 4) (own := [("other", 7)]) (g := gName 7) (tt := tYes) rfl scRec.nd rfl rfl (sw_true rfl rfl rfl (by decide +kernel)) (pi_tup (pv 1)) (blkOk_by (N := ["masks", "others", "size", "rows", "made", "index", "mask", "other", "choice"]) (sc := defScope sRec) (by decide +kernel)) (fun _ _ _ _ _ => pg_name (i := 7) scRec.nd rfl (Or.inl rfl)) (fun _ _ _ _ _ => pts_nil) (fun _ _ _ _ _ => (pe_call GM hr1 (by rfl) AM.mg AM.fn.kp AM.bi .nil pass0 (pa_cons (pv 3) (pa_cons (pe_op op_shl (pv 7) (pv 2)) pa_nil)))))
      (pss_cons (ps_if (pt_val (pe_callB (G.cr_anyI rfl) (by rfl) T.any (by decide +kernel) (pa_cons (pe_lc (own := [("choice", 8)]) (g := gName 8) (tt := tYes) rfl scRec.nd (pi_list (pv 4)) (blkOk_by (N := ["masks", "others", "size", "rows", "made", "index", "mask", "other", "choice"]) (sc := defScope sRec) (by decide +kernel)) (fun _ _ _ _ _ => pg_name (i := 8) scRec.nd rfl (Or.inl rfl)) (fun _ _ _ _ _ => pts_nil) (fun _ _ _ _ _ => (pe_op op_shr (pv 8) (pv 2)))) pa_nil))) (pss_one (ps_ret pe_non)) pss_nil)
      (pss_one (ps_ret (pe_callTy call_tuple_of (by rfl) T.tuple (by decide +kernel) (pa_cons (pv 4) pa_nil)))))))), ?_⟩
    refine ⟨_, rfl, p, _, rfl, .inr (SqT.of hp), ?_⟩
    rw [nv_len]
    generalize hn : vv.length = n at l1
    refine ⟨_, rfl, p, _, rfl, SqT.of hp, fun D hD => ?_⟩
    have npD : p ≠ D := ne_of_none hp hD
    refine lc_it (G.walk_enumT (K := K) (a := p) (xs := nv vv)) (fun i H' => (∀ b o, b ≠ D → H b = some o → H' b = some o) ∧ H' D = some (.lst (nv ((lift vv n).take i)))) ⟨fun b o n e => by rw [upd_ne n]; exact e, upd_same⟩
      (fun i H' _ ⟨s1, _⟩ => SqT.of (s1 _ _ npD hp)) ?_ ?_
    · rintro i x H1 H2 hi ⟨s1, hd⟩ ⟨Tp, x1, x2, rfl, hT, rfl, e1, e2⟩
      cases e1
      obtain ⟨m, em, rfl, hil⟩ := nv_at e2
      have hm := b1 m (List.mem_of_getElem? em)
      have nTD : D ≠ Tp := ne_of_none hd hT
      refine ⟨Tp, _, rfl, SqT.of upd_same, rfl, _, _, rfl, _, _, rfl, rfl, rfl, yes (iteT ?_)⟩
      refine ⟨_, rfl, _, rfl, _, _, rfl, rfl, ⟨by omega, by omega, by omega⟩, _, rfl, _, _, rfl, rfl, ⟨by omega, by omega, by decide⟩, _, _, rfl, rfl, _, by rw [upd_ne nTD]; exact hd, ?_, ?_, ?_⟩
      · rw [nv_len, List.length_take]
        exact Nat.lt_of_le_of_lt (Nat.min_le_left _ _) (Nat.lt_trans hil (Nat.lt_of_le_of_lt (hn ▸ l1) (by decide)))
      · intro b o n e
        rw [upd_ne n, upd_ne (ne_of_none (s1 b o n e) hT)]
        exact s1 b o n e
      · rw [upd_same, ← lift_next em]
        unfold nv
        rw [List.map_append]
        show some (HO.lst (_ ++ [V.int (Builtin.bitOr ((m : Int) * 2 ^ ((n : Int)).toNat) ((1 : Int) * 2 ^ ((i : Int)).toNat))])) = _
        rw [Int.toNat_natCast, Int.toNat_natCast, lift_cast (by omega)]
        rfl
    rintro H1 ⟨s1, hd1⟩
    have sm1 : Same H H1 := fun c u e => s1 c u (ne_of_none e hD) e
    have ll : (lift vv n).length = n := (GF.liftA_len n 0 vv).trans hn
    rw [nv_len, hn, List.take_of_length_le (by rw [ll]; exact Nat.le_refl _)] at hd1
    refine ⟨D, _, rfl, SqL.of hd1, by omega, fun rA L H2 _ sm2 hr2' _ RL _ hL => ⟨_, rfl, ?_⟩⟩
    have sm12 := sm1.trans sm2
    have hq2 := sm12 _ _ hq
    refine ⟨q, rfl, ⟨_, SqT.of hq2⟩, fun D2 hD2 => ?_⟩
    have nqD : q ≠ D2 := ne_of_none hq2 hD2
    have nrD : rA ≠ D2 := ne_of_none hr2' hD2
    let g : Nat → Nat := fun o => GF.rem L (o * 2 ^ n)
    refine lc_tup (K := K) (a := q) (xs := nv os) (fun i H' => (∀ b o, b ≠ D2 → H2 b = some o → H' b = some o) ∧ H' D2 = some (.lst (nv ((os.take i).map g)))) ⟨fun b o n e => by rw [upd_ne n]; exact e, upd_same⟩
      (fun i H' _ ⟨s2, _⟩ => SqT.of (s2 _ _ nqD hq2)) ?_ ?_
    · rintro i x H3 hx ⟨s2, hd⟩
      obtain ⟨o, eo, rfl, hi⟩ := nv_at hx
      have ho := b2 o (List.mem_of_getElem? eo)
      refine ⟨rfl, yes (iteT ?_)⟩
      refine ⟨_, rfl, _, rfl, _, rfl, _, _, rfl, rfl, ⟨by omega, by omega, by omega⟩, rA, L, o * 2 ^ n, ?_, SqT.of (s2 _ _ nrD hr2'), _, hd, ?_, ?_, ?_⟩
      · rw [Int.natCast_mul, pow_cast]
        rfl
      · rw [nv_len, List.length_map, List.length_take]
        exact Nat.lt_of_le_of_lt (Nat.min_le_right _ _) (Nat.lt_of_le_of_lt l2 (by decide))
      · exact fun b o n e => by rw [upd_ne n]; exact s2 b o n e
      · rw [upd_same, List.take_add_one, eo, List.map_append, nv_app]
        rfl
    rintro H3 ⟨s2, hd3⟩
    rw [nv_len, List.take_of_length_le (Nat.le_refl _)] at hd3
    have sm3 : Same H H3 := sm12.trans fun c u e => s2 c u (ne_of_none e hD2) e
    have key : ∀ o ∈ os, (g o < 2 ^ n ↔ InS vv o) ∧ (g o < 2 ^ n → comb vv (g o) = o ∧ g o < 2 ^ vv.length) := fun o _ => GF.rem_lift (by omega) RL hL
    refine ⟨_, rfl, ?_⟩
    refine ⟨D2, rfl, ⟨_, SqL.of hd3⟩, fun D4 hD4 => ?_⟩
    have nDD : D2 ≠ D4 := ne_of_none hd3 hD4
    refine lc_list (K := K) (a := D2) (xs := nv (os.map g)) (fun i H' => (∀ b o, b ≠ D4 → H3 b = some o → H' b = some o) ∧ H' D4 = some (.lst ((((os.map g).take i).map fun x : Nat => ((x : Int) / 2 ^ n)).map V.int))) ⟨fun b o n e => by rw [upd_ne n]; exact e, upd_same⟩
      (fun i H' _ ⟨s3, _⟩ => SqL.of (s3 _ _ nDD hd3)) ?_ ?_
    · rintro i x H4 hx ⟨s3, hd⟩
      obtain ⟨o, eo, rfl, hi⟩ := nv_at hx
      refine ⟨rfl, yes (iteT ?_)⟩
      refine ⟨_, rfl, _, rfl, _, _, rfl, rfl, by omega, _, hd, ?_, ?_, ?_⟩
      · rw [List.length_map, List.length_map, List.length_take]
        exact Nat.lt_of_le_of_lt (Nat.min_le_left _ _) (Nat.lt_trans hi (Nat.lt_of_le_of_lt (by rw [List.length_map]; exact l2) (by decide)))
      · exact fun b o n e => by rw [upd_ne n]; exact s3 b o n e
      · rw [upd_same, List.take_add_one, eo, List.map_append, List.map_append]
        rfl
    rintro H4 ⟨s3, hd4⟩
    rw [nv_len, List.take_of_length_le (Nat.le_refl _)] at hd4
    have sm4 : Same H H4 := sm3.trans fun c u e => s3 c u (ne_of_none e hD4) e
    refine ⟨D4, _, rfl, SqL.of hd4, _, rfl, ?_⟩
    have h3 := s3 _ _ nDD hd3
    by_cases c : ∀ o ∈ os, InS vv o
    · refine iteFb ?_ ?_
      · rw [List.any_eq_false]
        intro x hx
        obtain ⟨y, hy, rfl⟩ := List.mem_map.mp hx
        obtain ⟨o, ho, rfl⟩ := List.mem_map.mp hy
        have h := ((key o ho).1).mpr (c o ho)
        have e : ((g o : Nat) : Int) / 2 ^ n = 0 := by
          rw [← pow_cast, ← Int.natCast_ediv, Nat.div_eq_of_lt h]
          rfl
        rw [e]
        decide
      · refine ⟨_, rfl, D2, _, rfl, .inl ⟨SqL.of h3, fun t ht => ?_⟩⟩
        refine k c (os.map g) t _ ⟨List.length_map .., fun j r o hj ho => ?_⟩ (keep_new sm4 ht) upd_same
        rw [List.getElem?_map, ho] at hj
        cases hj
        have hm := List.mem_of_getElem? ho
        obtain ⟨h1, h2⟩ := key o hm
        obtain ⟨h3, h4⟩ := h2 (h1.mpr (c o hm))
        exact ⟨h4, h3⟩
    · refine iteTb ?_ (kn c H4 sm4)
      rw [List.any_eq_true]
      refine Classical.byContradiction fun z => c fun o ho => ((key o ho).1).mp ?_
      refine Nat.lt_of_not_le fun ge => z ⟨((g o : Nat) : Int) / 2 ^ n, List.mem_map.mpr ⟨g o, List.mem_map.mpr ⟨o, ho, rfl⟩, rfl⟩, ?_⟩
      rw [← pow_cast, ← Int.natCast_ediv]
      have : 1 ≤ g o / 2 ^ n := (Nat.le_div_iff_mul_le (Nat.two_pow_pos n)).mpr (by rw [Nat.one_mul]; exact ge)
      simp only [bne_iff_ne, ne_eq]
      omega
theorem p16 {wd v : Nat} (h : wd ≤ 16) (hv : v < 2 ^ wd) : v < 65536 := Nat.lt_of_lt_of_le hv (by
  have e : ∀ j : Nat, j < 17 → 2 ^ j ≤ 65536 := by decide
  exact e wd (by omega))
/-! ### recoding -/
def spRecg (K : PySem.W.Frag) : Sp := fun vs H Q _ => ∃ (wd : Nat) (p q : Addr) (vv os : List Nat), vs = [.int (wd : Int), .ref p, .ref q] ∧ 1 ≤ wd ∧ wd ≤ 16 ∧ H p = some (.tup (nv vv)) ∧ H q = some (.tup (nv os)) ∧ 1 ≤ vv.length ∧ vv.length ≤ 16 ∧ os.length ≤ 16 ∧ (∀ v ∈ vv, v < 2 ^ wd) ∧ (∀ v ∈ os, v < 2 ^ wd) ∧
  ((∀ o ∈ os, InS vv o) → ∀ (R : List Nat) (t : Addr) (H' : Hp), Made vv os R → Same H H' → H' t = some (.tup (nv R)) → Q (.ref t) H') ∧ ((¬ ∀ o ∈ os, InS vv o) → ∀ H', Same H H' → Q .non H')
theorem scRecg : FnScope ["width", "masks", "others"] ["width", "masks", "others"] (defScope sRecg) := ⟨rfl, rfl, rfl, by decide +kernel, rfl, by decide +kernel, by decide +kernel⟩
theorem ok_recg {f f1 f2 f3 fk f4 f5 f6 f7 f10 : Addr} {fd fd1 fd2 fd3 fdk fd4 fd5 fd6 fd7 fd10 : FuncData} (A0 : At K mg "recoding" sRecg ["width", "masks", "others"] f fd) (A1 : At K mg "is_int" sIsInt ["value"] f1 fd1) (A2 : At K mg "is_address" sIsAddr ["width", "value"] f2 fd2)
    (A3 : At K mg "are_addresses" sAreAddrs ["width", "value", "most"] f3 fd3) (AK : At K mg "are_masks" sAreMasks ["width", "value"] fk fdk) (A4 : At K mg "check_width" sCkWidth ["width"] f4 fd4) (A5 : At K mg "check_map" sCkMap ["width", "masks"] f5 fd5)
    (AM : At K mg "remainder" sRem ["rows", "vector"] f6 fd6) (AR : At K mg "reduced" sRed ["vectors"] f7 fd7) (AC : At K mg "recoded" sRec ["masks", "others"] f10 fd10) (T : Txt K mg) :
    FnOk P w K mg base CX0 6 f fd ["width", "masks", "others"] (spRecg K) := by
  have G4 : FnOk P w K mg base CX0 3 f4 fd4 ["width"] spCkWidth := ok_ckWidth A4 A1 T
  have G5 : FnOk P w K mg base CX0 5 f5 fd5 ["width", "masks"] (spCkMap K) := ok_ckMap A5 A1 A2 A3 AK T
  have GC : FnOk P w K mg base CX0 3 f10 fd10 ["masks", "others"] (spRec K) := ok_rec AC AR AM T
  refine A0.fn.ok scRecg (fun vs H Q E h => ?_) (fun cdv A outer s H vs Q E hr h => ?_)
  · obtain ⟨wd, p, q, vv, os, rfl, _⟩ := h
    rfl
  · obtain ⟨wd, p, q, vv, os, rfl, w1, w2, hp, hq, l0, l1, l2, b1, b2, k, kn⟩ := h
    have hr2 : Room 2 _ := hr.mono (by decide)
    have hr3 : Room 3 _ := hr.mono (by decide)
    have hr5 : Room 5 _ := hr.mono (by decide)
    refine ⟨_, (pss_cons (ps_expr (pe_call G4 (hr.mono (by decide)) (by rfl) A4.mg A4.fn.kp A4.bi .nil pass0 (pa_cons (pv 0) pa_nil)))
      (pss_cons (ps_expr (pe_call G5 hr5 (by rfl) A5.mg A5.fn.kp A5.bi .nil pass0 (pa_cons (pv 0) (pa_cons (pv 1) pa_nil))))
      (pss_cons (ps_expr (pe_call G5 hr5 (by rfl) A5.mg A5.fn.kp A5.bi .nil pass0 (pa_cons (pv 0) (pa_cons (pv 2) pa_nil))))
      (pss_cons (ps_if (pt_cmpR op_eq (pe_callB call_len_seq (by rfl) T.len PySem.boot_len (pa_cons (pv 1) pa_nil)) pe_int (nomark _)) (pss_one ps_never) pss_nil)
      (pss_one (ps_ret (pe_call GC hr3 (by rfl) AC.mg AC.fn.kp AC.bi .nil pass0 (pa_cons (pv 1) (pa_cons (pv 2) pa_nil))))))))), ?_⟩
    refine ⟨_, rfl, _, rfl, by omega, by omega, ?_⟩
    refine ⟨_, rfl, _, rfl, _, p, _, rfl, by omega, by omega, by rw [← nv_ints]; exact hp, by rw [List.length_map]; exact l1, inw_nv b1, fun H1 sm1 => ?_⟩
    refine ⟨_, rfl, _, rfl, _, q, _, rfl, by omega, by omega, by rw [← nv_ints]; exact sm1 _ _ hq, by rw [List.length_map]; exact l2, inw_nv b2, fun H2 sm2 => ?_⟩
    have sm12 := sm1.trans sm2
    have hp2 := sm12 _ _ hp
    refine ⟨_, rfl, p, _, rfl, .inr (SqT.of hp2), rfl, _, rfl, iteFb (decide_eq_false fun z => ?_) ?_⟩
    · have := V.int.inj z
      rw [nv_len] at this
      omega
    refine ⟨_, rfl, _, rfl, p, q, vv, os, rfl, hp2, sm12 _ _ hq, l1, l2, fun v hv => p16 w2 (b1 v hv), fun v hv => p16 w2 (b2 v hv), fun h R t H3 mR s3 ht => k h R t H3 mR (sm12.trans s3) ht, fun h H3 s3 => kn h H3 (sm12.trans s3)⟩
end
end X1.VR
set_option Elab.async false
set_option maxRecDepth 100000
set_option maxHeartbeats 8000000
set_option pp.maxSteps 600
namespace X1
open PySem L2
open G (Dv DvAll DvKv Wf WfA Keeps)
theorem same_none {H H' : Hp} {t : Addr} (s : Same H H') (h : H' t = none) : H t = none := by
  cases e : H t with
  | none => rfl
  | some u =>
    rw [s _ _ e] at h
    cases h
theorem fresh_ok {H H' : Hp} {b t : Addr} {o : HO} (s : Same H H') (hb : H b = some o) (h : H' t = none) : t ≠ b ∧ H t = none := ⟨(ne_of_none (s _ _ hb) h).symm, same_none s h⟩
theorem keep_new {H H1 : Hp} {p : Addr} {o : HO} (s : Same H H1) (hp : H1 p = none) : Same H (upd H1 p o) := fun c u e => by
  rw [upd_ne (ne_of_none (s _ _ e) hp)]
  exact s _ _ e
theorem new_at {H : Hp} {p q : Addr} {o u : HO} (h : H p = some o) (hq : H q = none) : upd H q u p = some o := (upd_ne (ne_of_none h hq)).trans h
theorem fresh_sam {H H1 H' : Hp} {b t : Addr} {o : HO} (s : Sam b H H1) (r : Same H1 H') (hb : H1 b = some o) (h : H' t = none) : t ≠ b ∧ H t = none := by
  have n : t ≠ b := (ne_of_none (r _ _ hb) h).symm
  refine ⟨n, ?_⟩
  cases e : H t with
  | none => rfl
  | some u =>
    rw [r _ _ (s _ _ n e)] at h
    cases h
section
variable {P : Program} {w : World} {K : PySem.W.Frag} {mg : Str → Option Value} {base : Heap}
/-! ### _law_any -/
def spAny (wr : Nat) : Sp := fun vs H Q _ => ∃ (b : Addr) (n : Int) (o : HO), vs = [.ref b] ∧ H b = some o ∧ BoxO n o ∧ n ≤ 900000 ∧
  ∀ (v : V) (d : PyData) (H' : Hp) (o' : HO), Sam b H H' → H' b = some o' → BoxO (n + 60) o' → Dv (fun a => a ≠ b ∧ H a = none) H' v d → Wf 100 (2 + wr) (150 + 3 * wr) d → Q v H'
theorem scAny : FnScope ["_law_box_here", "_law_some", "_law_found", "_law_turn"] ["_law_box_here"] (defScope sAny) := ⟨rfl, rfl, rfl, by decide +kernel, rfl, by decide +kernel, by decide +kernel⟩
theorem ok_any {f f1 f2 : Addr} {fd fd1 fd2 : FuncData} (A0 : At K mg "_law_any" sAny ["_law_box_here"] f fd) (A1 : At K mg "_law_take" sTake ["_law_box_here", "_law_many"] f1 fd1) (A2 : At K mg "_law_of" sOf ["_law_box_here", "_law_some"] f2 fd2) (T : Txt K mg) : FnOk P w K mg base CX0 3 f fd ["_law_box_here"] (spAny 18) := by
  have G2 : FnOk P w K mg base CX0 2 f2 fd2 ["_law_box_here", "_law_some"] spOf := ok_of A2 A1 T
  refine A0.fn.ok scAny (fun vs H Q E h => ?_) (fun cdv A outer s H vs Q E hr h => ?_)
  · obtain ⟨b, n, o, rfl, _⟩ := h
    rfl
  · obtain ⟨b, n, o, rfl, hb, B, hn, k⟩ := h
    have hr2 : Room 2 _ := hr
    refine ⟨_, (pss_cons (ps_set (i := 1) scAny.nd rfl (Or.inl rfl) (pe_lst (pa_cons pe_non (pa_cons pe_bl (pa_cons pe_bl (pa_cons pe_int (pa_cons pe_int (pa_cons (pe_un un_neg pe_int) (pa_cons pe_int (pa_cons pe_int (pa_cons pe_int (pa_cons pe_int (pa_cons (pe_op op_pow pe_int pe_int) (pa_cons pe_str (pa_cons pe_str (pa_cons pe_str (pa_cons pe_str (pa_cons (pe_tup pa_nil) (pa_cons (G.pe_lstS pa_nil) (pa_cons pe_dnewK (pa_cons (pe_tup (pa_cons pe_int pa_nil)) pa_nil)))))))))))))))))))))
      (pss_cons (ps_set (i := 1) scAny.nd rfl (Or.inl rfl) (pe_op op_cat (pv 1) (pe_lst (pa_cons (pe_tup (pa_cons pe_int (pa_cons pe_int pa_nil))) (pa_cons (pe_tup (pa_cons pe_int (pa_cons pe_int pa_nil))) (pa_cons (G.pe_lstS (pa_cons pe_int (pa_cons pe_int pa_nil))) (pa_cons (pe_tup (pa_cons pe_int (pa_cons pe_int pa_nil))) (pa_cons (pe_tup (pa_cons pe_bl pa_nil)) (pa_cons (pe_tup (pa_cons (pe_un un_neg pe_int) pa_nil)) (pa_cons (pe_tup (pa_cons pe_int (pa_cons pe_str pa_nil))) (pa_cons (pe_tup (pa_cons (pe_tup (pa_cons pe_int (pa_cons pe_int pa_nil))) (pa_cons (pe_tup (pa_cons pe_int (pa_cons pe_int pa_nil))) pa_nil))) (pa_cons (pe_tup (pa_cons (pe_tup (pa_cons pe_int (pa_cons pe_int pa_nil))) pa_nil)) (pa_cons (pe_disp (pps_cons pe_str pe_int pps_nil) rfl rfl (by decide) (by decide)) pa_nil)))))))))))))
      (pss_cons (ps_set (i := 2) scAny.nd rfl (Or.inl rfl) (pe_call G2 hr2 (by rfl) A2.mg A2.fn.kp A2.bi .nil pass0 (pa_cons (pv 0) (pa_cons (pv 1) pa_nil))))
      (pss_cons (ps_for PassesOwn.never rfl (pi_range1 (by rfl) T.range (pa_cons (pe_call G2 hr2 (by rfl) A2.mg A2.fn.kp A2.bi .nil pass0 (pa_cons (pv 0) (pa_cons (pe_lst (pa_cons pe_int (pa_cons pe_int (pa_cons pe_int (pa_cons pe_int (pa_cons pe_int (pa_cons pe_int pa_nil))))))) pa_nil))) pa_nil)) (pg_name (i := 3) scAny.nd rfl (Or.inl rfl)) (pss_one (ps_set (i := 2) scAny.nd rfl (Or.inl rfl) (pe_call G2 hr2 (by rfl) A2.mg A2.fn.kp A2.bi .nil pass0 (pa_cons (pv 0) (pa_cons (pe_lst (pa_cons (pe_tup (pa_cons (pv 2) pa_nil)) (pa_cons (G.pe_lstS (pa_cons (pv 2) pa_nil)) (pa_cons (pe_disp (pps_cons pe_str (pv 2) pps_nil) rfl rfl (by decide) (by decide)) (pa_cons (pe_tup (pa_cons (pv 2) (pa_cons pe_int pa_nil))) (pa_cons (pe_tup (pa_cons pe_int (pa_cons (pv 2) pa_nil))) pa_nil)))))) pa_nil))))))
      (pss_one (ps_ret (pv 2))))))), ?_⟩
    have S0 : Same H H := Same.refl H
    let N : Addr → Prop := fun a => a ≠ b ∧ H a = none
    refine ⟨_, rfl, _, _, rfl, rfl, ⟨by decide, by decide, by decide⟩, ?_⟩
    refine ⟨by show 0 ≤ sizeLine; decide, fun t1 ht1 => ?_⟩
    obtain ⟨nbt1, nnt1⟩ := fresh_ok S0 hb ht1
    have kt1 : Same H (upd H t1 (.tup [])) := keep_new (Same.refl _) ht1
    have S1 : Same H (upd H t1 (.tup [])) := S0.trans kt1
    have dt1 : Dv N (upd H t1 (.tup [])) (.ref t1) (PyData.tuple []) := .tup ⟨nbt1, nnt1⟩ upd_same .nil
    generalize (upd H t1 (.tup [])) = X1 at kt1 S1 dt1 ⊢
    refine ⟨by show 0 ≤ sizeLine; decide, fun t2 ht2 yt2 => ?_⟩
    obtain ⟨nbt2, nnt2⟩ := fresh_ok S1 hb ht2
    have kt2 : Same X1 (upd X1 t2 (.lst [])) := keep_new (Same.refl _) ht2
    have S2 : Same H (upd X1 t2 (.lst [])) := S1.trans kt2
    have dt2 : Dv N (upd X1 t2 (.lst [])) (.ref t2) (PyData.list []) := .lst ⟨nbt2, nnt2⟩ yt2 upd_same .nil
    replace dt1 := dt1.same kt2
    generalize (upd X1 t2 (.lst [])) = X2 at kt2 S2 dt2 dt1 ⊢
    refine fun t3 ht3 => ?_
    obtain ⟨nbt3, nnt3⟩ := fresh_ok S2 hb ht3
    have kt3 : Same X2 (upd X2 t3 (.dK [])) := keep_new (Same.refl _) ht3
    have S3 : Same H (upd X2 t3 (.dK [])) := S2.trans kt3
    have dt3 : Dv N (upd X2 t3 (.dK [])) (.ref t3) (PyData.dict []) := .dic ⟨nbt3, nnt3⟩ upd_same .nil
    replace dt1 := dt1.same kt3
    replace dt2 := dt2.same kt3
    generalize (upd X2 t3 (.dK [])) = X3 at kt3 S3 dt3 dt1 dt2 ⊢
    refine ⟨by show 1 ≤ sizeLine; decide, fun t4 ht4 => ?_⟩
    obtain ⟨nbt4, nnt4⟩ := fresh_ok S3 hb ht4
    have kt4 : Same X3 (upd X3 t4 (.tup [V.int (1)])) := keep_new (Same.refl _) ht4
    have S4 : Same H (upd X3 t4 (.tup [V.int (1)])) := S3.trans kt4
    have dt4 : Dv N (upd X3 t4 (.tup [V.int (1)])) (.ref t4) (PyData.tuple [.int (1)]) := .tup ⟨nbt4, nnt4⟩ upd_same (.cons (.int _) .nil)
    replace dt1 := dt1.same kt4
    replace dt2 := dt2.same kt4
    replace dt3 := dt3.same kt4
    generalize (upd X3 t4 (.tup [V.int (1)])) = X4 at kt4 S4 dt4 dt1 dt2 dt3 ⊢
    refine ⟨by show 19 ≤ sizeLine; decide, fun l1 hl1 => ?_⟩
    have kl1 : Same X4 (upd X4 l1 (.lst [V.non, V.bl true, V.bl false, V.int (0), V.int (1), V.int (-1), V.int (7), V.int (16), V.int (17), V.int (65), V.int (10 ^ (30 : Int).toNat), V.str "", V.str "a", V.str "5 10", V.str "toolongname", V.ref t1, V.ref t2, V.ref t3, V.ref t4])) := keep_new (Same.refl _) hl1
    have S5 : Same H (upd X4 l1 (.lst [V.non, V.bl true, V.bl false, V.int (0), V.int (1), V.int (-1), V.int (7), V.int (16), V.int (17), V.int (65), V.int (10 ^ (30 : Int).toNat), V.str "", V.str "a", V.str "5 10", V.str "toolongname", V.ref t1, V.ref t2, V.ref t3, V.ref t4])) := S4.trans kl1
    have A1 : DvAll N (upd X4 l1 (.lst [V.non, V.bl true, V.bl false, V.int (0), V.int (1), V.int (-1), V.int (7), V.int (16), V.int (17), V.int (65), V.int (10 ^ (30 : Int).toNat), V.str "", V.str "a", V.str "5 10", V.str "toolongname", V.ref t1, V.ref t2, V.ref t3, V.ref t4])) [V.non, V.bl true, V.bl false, V.int (0), V.int (1), V.int (-1), V.int (7), V.int (16), V.int (17), V.int (65), V.int (10 ^ (30 : Int).toNat), V.str "", V.str "a", V.str "5 10", V.str "toolongname", V.ref t1, V.ref t2, V.ref t3, V.ref t4] [PyData.none, PyData.bool true, PyData.bool false, PyData.int (0), PyData.int (1), PyData.int (-1), PyData.int (7), PyData.int (16), PyData.int (17), PyData.int (65), PyData.int (10 ^ (30 : Int).toNat), PyData.str "", PyData.str "a", PyData.str "5 10", PyData.str "toolongname", (PyData.tuple []), (PyData.list []), (PyData.dict []), (PyData.tuple [.int (1)])] := DvAll.same ((.cons .non (.cons (.bl _) (.cons (.bl _) (.cons (.int _) (.cons (.int _) (.cons (.int _) (.cons (.int _) (.cons (.int _) (.cons (.int _) (.cons (.int _) (.cons (.int _) (.cons (.str _) (.cons (.str _) (.cons (.str _) (.cons (.str _) (.cons dt1 (.cons dt2 (.cons dt3 (.cons dt4 .nil))))))))))))))))))) : DvAll N X4 [V.non, V.bl true, V.bl false, V.int (0), V.int (1), V.int (-1), V.int (7), V.int (16), V.int (17), V.int (65), V.int (10 ^ (30 : Int).toNat), V.str "", V.str "a", V.str "5 10", V.str "toolongname", V.ref t1, V.ref t2, V.ref t3, V.ref t4] [PyData.none, PyData.bool true, PyData.bool false, PyData.int (0), PyData.int (1), PyData.int (-1), PyData.int (7), PyData.int (16), PyData.int (17), PyData.int (65), PyData.int (10 ^ (30 : Int).toNat), PyData.str "", PyData.str "a", PyData.str "5 10", PyData.str "toolongname", (PyData.tuple []), (PyData.list []), (PyData.dict []), (PyData.tuple [.int (1)])]) kl1
    have fl1 : (upd X4 l1 (.lst [V.non, V.bl true, V.bl false, V.int (0), V.int (1), V.int (-1), V.int (7), V.int (16), V.int (17), V.int (65), V.int (10 ^ (30 : Int).toNat), V.str "", V.str "a", V.str "5 10", V.str "toolongname", V.ref t1, V.ref t2, V.ref t3, V.ref t4])) l1 = some (.lst [V.non, V.bl true, V.bl false, V.int (0), V.int (1), V.int (-1), V.int (7), V.int (16), V.int (17), V.int (65), V.int (10 ^ (30 : Int).toNat), V.str "", V.str "a", V.str "5 10", V.str "toolongname", V.ref t1, V.ref t2, V.ref t3, V.ref t4]) := upd_same
    generalize (upd X4 l1 (.lst [V.non, V.bl true, V.bl false, V.int (0), V.int (1), V.int (-1), V.int (7), V.int (16), V.int (17), V.int (65), V.int (10 ^ (30 : Int).toNat), V.str "", V.str "a", V.str "5 10", V.str "toolongname", V.ref t1, V.ref t2, V.ref t3, V.ref t4])) = X5 at kl1 S5 A1 fl1 ⊢
    generalize ev1 : [V.non, V.bl true, V.bl false, V.int (0), V.int (1), V.int (-1), V.int (7), V.int (16), V.int (17), V.int (65), V.int (10 ^ (30 : Int).toNat), V.str "", V.str "a", V.str "5 10", V.str "toolongname", V.ref t1, V.ref t2, V.ref t3, V.ref t4] = vs1 at A1 fl1 ⊢
    have lv1 : vs1.length = 19 := by rw [← ev1]; rfl
    clear ev1 dt1 dt2 dt3 dt4
    refine ⟨_, rfl, ?_⟩
    refine ⟨by show 2 ≤ sizeLine; decide, fun t6 ht6 => ?_⟩
    obtain ⟨nbt6, nnt6⟩ := fresh_ok S5 hb ht6
    have kt6 : Same X5 (upd X5 t6 (.tup [V.int (1), V.int (2)])) := keep_new (Same.refl _) ht6
    have S6 : Same H (upd X5 t6 (.tup [V.int (1), V.int (2)])) := S5.trans kt6
    have dt6 : Dv N (upd X5 t6 (.tup [V.int (1), V.int (2)])) (.ref t6) (PyData.tuple [.int (1), .int (2)]) := .tup ⟨nbt6, nnt6⟩ upd_same (.cons (.int _) (.cons (.int _) .nil))
    generalize (upd X5 t6 (.tup [V.int (1), V.int (2)])) = X6 at kt6 S6 dt6 ⊢
    refine ⟨by show 2 ≤ sizeLine; decide, fun t7 ht7 => ?_⟩
    obtain ⟨nbt7, nnt7⟩ := fresh_ok S6 hb ht7
    have kt7 : Same X6 (upd X6 t7 (.tup [V.int (2), V.int (1)])) := keep_new (Same.refl _) ht7
    have S7 : Same H (upd X6 t7 (.tup [V.int (2), V.int (1)])) := S6.trans kt7
    have dt7 : Dv N (upd X6 t7 (.tup [V.int (2), V.int (1)])) (.ref t7) (PyData.tuple [.int (2), .int (1)]) := .tup ⟨nbt7, nnt7⟩ upd_same (.cons (.int _) (.cons (.int _) .nil))
    replace dt6 := dt6.same kt7
    generalize (upd X6 t7 (.tup [V.int (2), V.int (1)])) = X7 at kt7 S7 dt7 dt6 ⊢
    refine ⟨by show 2 ≤ sizeLine; decide, fun t8 ht8 yt8 => ?_⟩
    obtain ⟨nbt8, nnt8⟩ := fresh_ok S7 hb ht8
    have kt8 : Same X7 (upd X7 t8 (.lst [V.int (1), V.int (2)])) := keep_new (Same.refl _) ht8
    have S8 : Same H (upd X7 t8 (.lst [V.int (1), V.int (2)])) := S7.trans kt8
    have dt8 : Dv N (upd X7 t8 (.lst [V.int (1), V.int (2)])) (.ref t8) (PyData.list [.int (1), .int (2)]) := .lst ⟨nbt8, nnt8⟩ yt8 upd_same (.cons (.int _) (.cons (.int _) .nil))
    replace dt6 := dt6.same kt8
    replace dt7 := dt7.same kt8
    generalize (upd X7 t8 (.lst [V.int (1), V.int (2)])) = X8 at kt8 S8 dt8 dt6 dt7 ⊢
    refine ⟨by show 2 ≤ sizeLine; decide, fun t9 ht9 => ?_⟩
    obtain ⟨nbt9, nnt9⟩ := fresh_ok S8 hb ht9
    have kt9 : Same X8 (upd X8 t9 (.tup [V.int (0), V.int (0)])) := keep_new (Same.refl _) ht9
    have S9 : Same H (upd X8 t9 (.tup [V.int (0), V.int (0)])) := S8.trans kt9
    have dt9 : Dv N (upd X8 t9 (.tup [V.int (0), V.int (0)])) (.ref t9) (PyData.tuple [.int (0), .int (0)]) := .tup ⟨nbt9, nnt9⟩ upd_same (.cons (.int _) (.cons (.int _) .nil))
    replace dt6 := dt6.same kt9
    replace dt7 := dt7.same kt9
    replace dt8 := dt8.same kt9
    generalize (upd X8 t9 (.tup [V.int (0), V.int (0)])) = X9 at kt9 S9 dt9 dt6 dt7 dt8 ⊢
    refine ⟨by show 1 ≤ sizeLine; decide, fun t10 ht10 => ?_⟩
    obtain ⟨nbt10, nnt10⟩ := fresh_ok S9 hb ht10
    have kt10 : Same X9 (upd X9 t10 (.tup [V.bl true])) := keep_new (Same.refl _) ht10
    have S10 : Same H (upd X9 t10 (.tup [V.bl true])) := S9.trans kt10
    have dt10 : Dv N (upd X9 t10 (.tup [V.bl true])) (.ref t10) (PyData.tuple [.bool true]) := .tup ⟨nbt10, nnt10⟩ upd_same (.cons (.bl _) .nil)
    replace dt6 := dt6.same kt10
    replace dt7 := dt7.same kt10
    replace dt8 := dt8.same kt10
    replace dt9 := dt9.same kt10
    generalize (upd X9 t10 (.tup [V.bl true])) = X10 at kt10 S10 dt10 dt6 dt7 dt8 dt9 ⊢
    refine ⟨_, rfl, ?_⟩
    refine ⟨by show 1 ≤ sizeLine; decide, fun t11 ht11 => ?_⟩
    obtain ⟨nbt11, nnt11⟩ := fresh_ok S10 hb ht11
    have kt11 : Same X10 (upd X10 t11 (.tup [V.int (-1)])) := keep_new (Same.refl _) ht11
    have S11 : Same H (upd X10 t11 (.tup [V.int (-1)])) := S10.trans kt11
    have dt11 : Dv N (upd X10 t11 (.tup [V.int (-1)])) (.ref t11) (PyData.tuple [.int (-1)]) := .tup ⟨nbt11, nnt11⟩ upd_same (.cons (.int _) .nil)
    replace dt6 := dt6.same kt11
    replace dt7 := dt7.same kt11
    replace dt8 := dt8.same kt11
    replace dt9 := dt9.same kt11
    replace dt10 := dt10.same kt11
    generalize (upd X10 t11 (.tup [V.int (-1)])) = X11 at kt11 S11 dt11 dt6 dt7 dt8 dt9 dt10 ⊢
    refine ⟨by show 2 ≤ sizeLine; decide, fun t12 ht12 => ?_⟩
    obtain ⟨nbt12, nnt12⟩ := fresh_ok S11 hb ht12
    have kt12 : Same X11 (upd X11 t12 (.tup [V.int (1), V.str "a"])) := keep_new (Same.refl _) ht12
    have S12 : Same H (upd X11 t12 (.tup [V.int (1), V.str "a"])) := S11.trans kt12
    have dt12 : Dv N (upd X11 t12 (.tup [V.int (1), V.str "a"])) (.ref t12) (PyData.tuple [.int (1), .str "a"]) := .tup ⟨nbt12, nnt12⟩ upd_same (.cons (.int _) (.cons (.str _) .nil))
    replace dt6 := dt6.same kt12
    replace dt7 := dt7.same kt12
    replace dt8 := dt8.same kt12
    replace dt9 := dt9.same kt12
    replace dt10 := dt10.same kt12
    replace dt11 := dt11.same kt12
    generalize (upd X11 t12 (.tup [V.int (1), V.str "a"])) = X12 at kt12 S12 dt12 dt6 dt7 dt8 dt9 dt10 dt11 ⊢
    refine ⟨by show 2 ≤ sizeLine; decide, fun t13 ht13 => ?_⟩
    obtain ⟨nbt13, nnt13⟩ := fresh_ok S12 hb ht13
    have kt13 : Same X12 (upd X12 t13 (.tup [V.int (0), V.int (1)])) := keep_new (Same.refl _) ht13
    have S13 : Same H (upd X12 t13 (.tup [V.int (0), V.int (1)])) := S12.trans kt13
    have dt13 : Dv N (upd X12 t13 (.tup [V.int (0), V.int (1)])) (.ref t13) (PyData.tuple [.int (0), .int (1)]) := .tup ⟨nbt13, nnt13⟩ upd_same (.cons (.int _) (.cons (.int _) .nil))
    replace dt6 := dt6.same kt13
    replace dt7 := dt7.same kt13
    replace dt8 := dt8.same kt13
    replace dt9 := dt9.same kt13
    replace dt10 := dt10.same kt13
    replace dt11 := dt11.same kt13
    replace dt12 := dt12.same kt13
    generalize (upd X12 t13 (.tup [V.int (0), V.int (1)])) = X13 at kt13 S13 dt13 dt6 dt7 dt8 dt9 dt10 dt11 dt12 ⊢
    refine ⟨by show 2 ≤ sizeLine; decide, fun t14 ht14 => ?_⟩
    obtain ⟨nbt14, nnt14⟩ := fresh_ok S13 hb ht14
    have kt14 : Same X13 (upd X13 t14 (.tup [V.int (0), V.int (4)])) := keep_new (Same.refl _) ht14
    have S14 : Same H (upd X13 t14 (.tup [V.int (0), V.int (4)])) := S13.trans kt14
    have dt14 : Dv N (upd X13 t14 (.tup [V.int (0), V.int (4)])) (.ref t14) (PyData.tuple [.int (0), .int (4)]) := .tup ⟨nbt14, nnt14⟩ upd_same (.cons (.int _) (.cons (.int _) .nil))
    replace dt6 := dt6.same kt14
    replace dt7 := dt7.same kt14
    replace dt8 := dt8.same kt14
    replace dt9 := dt9.same kt14
    replace dt10 := dt10.same kt14
    replace dt11 := dt11.same kt14
    replace dt12 := dt12.same kt14
    replace dt13 := dt13.same kt14
    generalize (upd X13 t14 (.tup [V.int (0), V.int (4)])) = X14 at kt14 S14 dt14 dt6 dt7 dt8 dt9 dt10 dt11 dt12 dt13 ⊢
    refine ⟨by show 2 ≤ sizeLine; decide, fun t15 ht15 => ?_⟩
    obtain ⟨nbt15, nnt15⟩ := fresh_ok S14 hb ht15
    have kt15 : Same X14 (upd X14 t15 (.tup [V.ref t13, V.ref t14])) := keep_new (Same.refl _) ht15
    have S15 : Same H (upd X14 t15 (.tup [V.ref t13, V.ref t14])) := S14.trans kt15
    have dt15 : Dv N (upd X14 t15 (.tup [V.ref t13, V.ref t14])) (.ref t15) (PyData.tuple [(PyData.tuple [.int (0), .int (1)]), (PyData.tuple [.int (0), .int (4)])]) := .tup ⟨nbt15, nnt15⟩ upd_same (.cons (dt13.same kt15) (.cons (dt14.same kt15) .nil))
    replace dt6 := dt6.same kt15
    replace dt7 := dt7.same kt15
    replace dt8 := dt8.same kt15
    replace dt9 := dt9.same kt15
    replace dt10 := dt10.same kt15
    replace dt11 := dt11.same kt15
    replace dt12 := dt12.same kt15
    replace dt13 := dt13.same kt15
    replace dt14 := dt14.same kt15
    generalize (upd X14 t15 (.tup [V.ref t13, V.ref t14])) = X15 at kt15 S15 dt15 dt6 dt7 dt8 dt9 dt10 dt11 dt12 dt13 dt14 ⊢
    refine ⟨by show 2 ≤ sizeLine; decide, fun t16 ht16 => ?_⟩
    obtain ⟨nbt16, nnt16⟩ := fresh_ok S15 hb ht16
    have kt16 : Same X15 (upd X15 t16 (.tup [V.int (1), V.int (0)])) := keep_new (Same.refl _) ht16
    have S16 : Same H (upd X15 t16 (.tup [V.int (1), V.int (0)])) := S15.trans kt16
    have dt16 : Dv N (upd X15 t16 (.tup [V.int (1), V.int (0)])) (.ref t16) (PyData.tuple [.int (1), .int (0)]) := .tup ⟨nbt16, nnt16⟩ upd_same (.cons (.int _) (.cons (.int _) .nil))
    replace dt6 := dt6.same kt16
    replace dt7 := dt7.same kt16
    replace dt8 := dt8.same kt16
    replace dt9 := dt9.same kt16
    replace dt10 := dt10.same kt16
    replace dt11 := dt11.same kt16
    replace dt12 := dt12.same kt16
    replace dt13 := dt13.same kt16
    replace dt14 := dt14.same kt16
    replace dt15 := dt15.same kt16
    generalize (upd X15 t16 (.tup [V.int (1), V.int (0)])) = X16 at kt16 S16 dt16 dt6 dt7 dt8 dt9 dt10 dt11 dt12 dt13 dt14 dt15 ⊢
    refine ⟨by show 1 ≤ sizeLine; decide, fun t17 ht17 => ?_⟩
    obtain ⟨nbt17, nnt17⟩ := fresh_ok S16 hb ht17
    have kt17 : Same X16 (upd X16 t17 (.tup [V.ref t16])) := keep_new (Same.refl _) ht17
    have S17 : Same H (upd X16 t17 (.tup [V.ref t16])) := S16.trans kt17
    have dt17 : Dv N (upd X16 t17 (.tup [V.ref t16])) (.ref t17) (PyData.tuple [(PyData.tuple [.int (1), .int (0)])]) := .tup ⟨nbt17, nnt17⟩ upd_same (.cons (dt16.same kt17) .nil)
    replace dt6 := dt6.same kt17
    replace dt7 := dt7.same kt17
    replace dt8 := dt8.same kt17
    replace dt9 := dt9.same kt17
    replace dt10 := dt10.same kt17
    replace dt11 := dt11.same kt17
    replace dt12 := dt12.same kt17
    replace dt13 := dt13.same kt17
    replace dt14 := dt14.same kt17
    replace dt15 := dt15.same kt17
    replace dt16 := dt16.same kt17
    generalize (upd X16 t17 (.tup [V.ref t16])) = X17 at kt17 S17 dt17 dt6 dt7 dt8 dt9 dt10 dt11 dt12 dt13 dt14 dt15 dt16 ⊢
    refine fun t18 ht18 => ⟨upd_same, [(Sum.inr "a", V.int (1))], rfl, by decide, ?_⟩
    rw [show mergeK [] [((Sum.inr "a" : Key), V.int (1))] = ([((Sum.inr "a" : Key), V.int (1))] : List (Key × V)) from rfl]
    rw [upd_upd]
    obtain ⟨nbt18, nnt18⟩ := fresh_ok S17 hb ht18
    have kt18 : Same X17 (upd X17 t18 (.dK [(Sum.inr "a", V.int (1))])) := keep_new (Same.refl _) ht18
    have S18 : Same H (upd X17 t18 (.dK [(Sum.inr "a", V.int (1))])) := S17.trans kt18
    have dt18 : Dv N (upd X17 t18 (.dK [(Sum.inr "a", V.int (1))])) (.ref t18) (PyData.dict [(.str "a", .int (1))]) := .dic ⟨nbt18, nnt18⟩ upd_same (.cons (.int _) .nil)
    replace dt6 := dt6.same kt18
    replace dt7 := dt7.same kt18
    replace dt8 := dt8.same kt18
    replace dt9 := dt9.same kt18
    replace dt10 := dt10.same kt18
    replace dt11 := dt11.same kt18
    replace dt12 := dt12.same kt18
    replace dt13 := dt13.same kt18
    replace dt14 := dt14.same kt18
    replace dt15 := dt15.same kt18
    replace dt16 := dt16.same kt18
    replace dt17 := dt17.same kt18
    generalize (upd X17 t18 (.dK [(Sum.inr "a", V.int (1))])) = X18 at kt18 S18 dt18 dt6 dt7 dt8 dt9 dt10 dt11 dt12 dt13 dt14 dt15 dt16 dt17 ⊢
    refine ⟨by show 10 ≤ sizeLine; decide, fun l2 hl2 => ?_⟩
    have kl2 : Same X18 (upd X18 l2 (.lst [V.ref t6, V.ref t7, V.ref t8, V.ref t9, V.ref t10, V.ref t11, V.ref t12, V.ref t15, V.ref t17, V.ref t18])) := keep_new (Same.refl _) hl2
    have S19 : Same H (upd X18 l2 (.lst [V.ref t6, V.ref t7, V.ref t8, V.ref t9, V.ref t10, V.ref t11, V.ref t12, V.ref t15, V.ref t17, V.ref t18])) := S18.trans kl2
    have A2 : DvAll N (upd X18 l2 (.lst [V.ref t6, V.ref t7, V.ref t8, V.ref t9, V.ref t10, V.ref t11, V.ref t12, V.ref t15, V.ref t17, V.ref t18])) [V.ref t6, V.ref t7, V.ref t8, V.ref t9, V.ref t10, V.ref t11, V.ref t12, V.ref t15, V.ref t17, V.ref t18] [(PyData.tuple [.int (1), .int (2)]), (PyData.tuple [.int (2), .int (1)]), (PyData.list [.int (1), .int (2)]), (PyData.tuple [.int (0), .int (0)]), (PyData.tuple [.bool true]), (PyData.tuple [.int (-1)]), (PyData.tuple [.int (1), .str "a"]), (PyData.tuple [(PyData.tuple [.int (0), .int (1)]), (PyData.tuple [.int (0), .int (4)])]), (PyData.tuple [(PyData.tuple [.int (1), .int (0)])]), (PyData.dict [(.str "a", .int (1))])] := DvAll.same ((.cons dt6 (.cons dt7 (.cons dt8 (.cons dt9 (.cons dt10 (.cons dt11 (.cons dt12 (.cons dt15 (.cons dt17 (.cons dt18 .nil)))))))))) : DvAll N X18 [V.ref t6, V.ref t7, V.ref t8, V.ref t9, V.ref t10, V.ref t11, V.ref t12, V.ref t15, V.ref t17, V.ref t18] [(PyData.tuple [.int (1), .int (2)]), (PyData.tuple [.int (2), .int (1)]), (PyData.list [.int (1), .int (2)]), (PyData.tuple [.int (0), .int (0)]), (PyData.tuple [.bool true]), (PyData.tuple [.int (-1)]), (PyData.tuple [.int (1), .str "a"]), (PyData.tuple [(PyData.tuple [.int (0), .int (1)]), (PyData.tuple [.int (0), .int (4)])]), (PyData.tuple [(PyData.tuple [.int (1), .int (0)])]), (PyData.dict [(.str "a", .int (1))])]) kl2
    have fl2 : (upd X18 l2 (.lst [V.ref t6, V.ref t7, V.ref t8, V.ref t9, V.ref t10, V.ref t11, V.ref t12, V.ref t15, V.ref t17, V.ref t18])) l2 = some (.lst [V.ref t6, V.ref t7, V.ref t8, V.ref t9, V.ref t10, V.ref t11, V.ref t12, V.ref t15, V.ref t17, V.ref t18]) := upd_same
    generalize (upd X18 l2 (.lst [V.ref t6, V.ref t7, V.ref t8, V.ref t9, V.ref t10, V.ref t11, V.ref t12, V.ref t15, V.ref t17, V.ref t18])) = X19 at kl2 S19 A2 fl2 ⊢
    generalize ev2 : [V.ref t6, V.ref t7, V.ref t8, V.ref t9, V.ref t10, V.ref t11, V.ref t12, V.ref t15, V.ref t17, V.ref t18] = vs2 at A2 fl2 ⊢
    have lv2 : vs2.length = 10 := by rw [← ev2]; rfl
    have kk := (kt6.trans (kt7.trans (kt8.trans (kt9.trans (kt10.trans (kt11.trans (kt12.trans (kt13.trans (kt14.trans (kt15.trans (kt16.trans (kt17.trans (kt18.trans kl2)))))))))))))
    have A3 := (A1.same kk).app A2
    have fl1 := kk _ _ fl1
    have wf : ([PyData.none, PyData.bool true, PyData.bool false, PyData.int (0), PyData.int (1), PyData.int (-1), PyData.int (7), PyData.int (16), PyData.int (17), PyData.int (65), PyData.int (10 ^ (30 : Int).toNat), PyData.str "", PyData.str "a", PyData.str "5 10", PyData.str "toolongname", (PyData.tuple []), (PyData.list []), (PyData.dict []), (PyData.tuple [.int (1)])] ++ [(PyData.tuple [.int (1), .int (2)]), (PyData.tuple [.int (2), .int (1)]), (PyData.list [.int (1), .int (2)]), (PyData.tuple [.int (0), .int (0)]), (PyData.tuple [.bool true]), (PyData.tuple [.int (-1)]), (PyData.tuple [.int (1), .str "a"]), (PyData.tuple [(PyData.tuple [.int (0), .int (1)]), (PyData.tuple [.int (0), .int (4)])]), (PyData.tuple [(PyData.tuple [.int (1), .int (0)])]), (PyData.dict [(.str "a", .int (1))])]).all (fun d => G.sm 100 d && decide (d.depth ≤ 2) && decide (d.weight ≤ 150)) = true := by decide +kernel
    generalize [PyData.none, PyData.bool true, PyData.bool false, PyData.int (0), PyData.int (1), PyData.int (-1), PyData.int (7), PyData.int (16), PyData.int (17), PyData.int (65), PyData.int (10 ^ (30 : Int).toNat), PyData.str "", PyData.str "a", PyData.str "5 10", PyData.str "toolongname", (PyData.tuple []), (PyData.list []), (PyData.dict []), (PyData.tuple [.int (1)])] ++ [(PyData.tuple [.int (1), .int (2)]), (PyData.tuple [.int (2), .int (1)]), (PyData.list [.int (1), .int (2)]), (PyData.tuple [.int (0), .int (0)]), (PyData.tuple [.bool true]), (PyData.tuple [.int (-1)]), (PyData.tuple [.int (1), .str "a"]), (PyData.tuple [(PyData.tuple [.int (0), .int (1)]), (PyData.tuple [.int (0), .int (4)])]), (PyData.tuple [(PyData.tuple [.int (1), .int (0)])]), (PyData.dict [(.str "a", .int (1))])] = ds3 at A3 wf
    have lv3 : (vs1 ++ vs2).length = 29 := by rw [List.length_append, lv1, lv2]
    clear ev2 A1 A2 kk kl2 kl1 dt6 dt7 dt8 dt9 dt10 dt11 dt12 dt13 dt14 dt15 dt16 dt17 dt18 kt1 nbt1 nnt1 ht1 kt2 nbt2 nnt2 ht2 kt3 nbt3 nnt3 ht3 kt4 nbt4 nnt4 ht4 kt6 nbt6 nnt6 ht6 kt7 nbt7 nnt7 ht7 kt8 nbt8 nnt8 ht8 kt9 nbt9 nnt9 ht9 kt10 nbt10 nnt10 ht10 kt11 nbt11 nnt11 ht11 kt12 nbt12 nnt12 ht12 kt13 nbt13 nnt13 ht13 kt14 nbt14 nnt14 ht14 kt15 nbt15 nnt15 ht15 kt16 nbt16 nnt16 ht16 kt17 nbt17 nnt17 ht17 kt18 nbt18 nnt18 ht18
    refine ⟨l1, l2, vs1, vs2, rfl, rfl, fl1, fl2, by rw [lv1, lv2]; decide, fun l3 hl3 => ?_⟩
    have nl3 : l3 ≠ b := (fresh_ok S19 hb hl3).1
    have SL : Same H (upd X19 l3 (.lst (vs1 ++ vs2))) := S19.trans (keep_new (Same.refl _) hl3)
    have A4 := A3.same (keep_new (o := .lst (vs1 ++ vs2)) (Same.refl _) hl3)
    have fl3 : (upd X19 l3 (.lst (vs1 ++ vs2))) l3 = some (.lst (vs1 ++ vs2)) := upd_same
    generalize (upd X19 l3 (.lst (vs1 ++ vs2))) = Y at SL A4 fl3 ⊢
    generalize vs1 ++ vs2 = vs3 at A4 fl3 lv3 ⊢
    clear A3 hl3 S0 S1 S2 S3 S4 S5 S6 S7 S8 S9 S10 S11 S12 S13 S14 S15 S16 S17 S18 S19
    have hbY := SL _ _ hb
    refine ⟨_, rfl, _, rfl, b, l3, n, o, vs3, rfl, hbY, B, by omega, fl3, nl3, by omega, by omega, fun j v o1 hv B1 => ?_⟩
    obtain ⟨d, ed, hd⟩ := A4.at hv
    have wd : Wf 100 2 150 d := G.Wf.of (List.all_eq_true.mp wf d (List.mem_of_getElem? ed))
    have SB : Sam b H (upd Y b o1) := fun c u nc e => (upd_ne nc).trans (SL _ _ e)
    have hd1 : Dv N (upd Y b o1) v d := hd.keep fun c u nc _ e => (upd_ne nc.1).trans e
    have hb1 : (upd Y b o1) b = some o1 := upd_same
    generalize (upd Y b o1) = Z at SB hd1 hb1 ⊢
    clear A4 wf ed hd fl3 SL hbY hv
    refine ⟨_, rfl, by show 6 ≤ sizeLine; decide, fun l4 hl4 => ?_⟩
    have n4 : l4 ≠ b := (ne_of_none hb1 hl4).symm
    refine ⟨b, l4, _, o1, [V.int 0, V.int 0, V.int 0, V.int 1, V.int 2, V.int 18], rfl, new_at hb1 hl4, B1, by omega, upd_same, n4, by decide, by decide, fun j2 v2 o2 hv2 B2 => ?_⟩
    have hv2 : (([0, 0, 0, 1, 2, 18] : List Int).map V.int)[j2]? = some v2 := hv2
    obtain ⟨m, em, rfl, _, _⟩ := at_map hv2
    have hm : 0 ≤ m ∧ m ≤ 18 := by
      have hm := List.mem_of_getElem? em
      simp only [List.mem_cons, List.not_mem_nil, or_false] at hm
      omega
    obtain ⟨mn, rfl⟩ : ∃ mn : Nat, m = (mn : Int) := ⟨m.toNat, by omega⟩
    have SB2 : Sam b H (upd (upd Z l4 (.lst [V.int 0, V.int 0, V.int 0, V.int 1, V.int 2, V.int 18])) b o2) := (SB.new hl4).trans Sam.upd
    have hd2 : Dv N (upd (upd Z l4 (.lst [V.int 0, V.int 0, V.int 0, V.int 1, V.int 2, V.int 18])) b o2) v d := hd1.keep fun c u nc _ e => (upd_ne nc.1).trans (new_at e hl4)
    have hb2 : (upd (upd Z l4 (.lst [V.int 0, V.int 0, V.int 0, V.int 1, V.int 2, V.int 18])) b o2) b = some o2 := upd_same
    generalize (upd (upd Z l4 (.lst [V.int 0, V.int 0, V.int 0, V.int 1, V.int 2, V.int 18])) b o2) = Z2 at SB2 hd2 hb2 ⊢
    clear hv2 em n4 hl4 SB hd1 hb1
    refine ⟨_, rfl, by omega, by omega, ?_⟩
    refine for_range (lo := 0) (n := mn) (fun i σ H' => ∃ (v : V) (d : PyData) (o1 : HO) (t3 : Option V), σ = [some (.ref b), some (.ref l3), some v, t3] ∧ Sam b H H' ∧ H' b = some o1 ∧ BoxO (n + 2 + (i : Int)) o1 ∧ Dv N H' v d ∧ Wf 100 (2 + i) (150 + 3 * i) d)
      ⟨v, d, o2, none, rfl, SB2, hb2, by simpa [Int.add_assoc] using B2, hd2, wd⟩ ?_ ?_
    · rintro i σ H1 hi ⟨v, d, o1, t3, rfl, SB, hb1, B1, hd, wd⟩
      refine ⟨_, rfl, ?_⟩
      have R0 : Same H1 H1 := Same.refl H1
      refine ⟨_, rfl, by show 1 ≤ sizeLine; decide, fun u1 hu1 => ?_⟩
      have Nu1 := fresh_sam SB R0 hb1 hu1
      have ku1 : Same H1 (upd H1 u1 (.tup [v])) := keep_new (Same.refl _) hu1
      have R1 : Same H1 (upd H1 u1 (.tup [v])) := R0.trans ku1
      have du1 : Dv N (upd H1 u1 (.tup [v])) (.ref u1) (PyData.tuple [d]) := .tup Nu1 upd_same (.cons (hd.same R1) .nil)
      generalize (upd H1 u1 (.tup [v])) = W1 at ku1 R1 du1 ⊢
      refine ⟨_, rfl, by show 1 ≤ sizeLine; decide, fun u2 hu2 y2 => ?_⟩
      have Nu2 := fresh_sam SB R1 hb1 hu2
      have ku2 : Same W1 (upd W1 u2 (.lst [v])) := keep_new (Same.refl _) hu2
      have R2 : Same H1 (upd W1 u2 (.lst [v])) := R1.trans ku2
      have du2 : Dv N (upd W1 u2 (.lst [v])) (.ref u2) (PyData.list [d]) := .lst Nu2 y2 upd_same (.cons (hd.same R2) .nil)
      replace du1 := du1.same ku2
      generalize (upd W1 u2 (.lst [v])) = W2 at ku2 R2 du2 du1 ⊢
      refine fun u3 hu3 => ⟨_, rfl, upd_same, [(Sum.inr "a", v)], rfl, by show 1 ≤ 15; decide, ?_⟩
      rw [show mergeK ([] : List (Key × V)) [((Sum.inr "a" : Key), v)] = ([((Sum.inr "a" : Key), v)] : List (Key × V)) from rfl]
      rw [upd_upd]
      have Nu3 := fresh_sam SB R2 hb1 hu3
      have ku3 : Same W2 (upd W2 u3 (.dK [(Sum.inr "a", v)])) := keep_new (Same.refl _) hu3
      have R3 : Same H1 (upd W2 u3 (.dK [(Sum.inr "a", v)])) := R2.trans ku3
      have du3 : Dv N (upd W2 u3 (.dK [(Sum.inr "a", v)])) (.ref u3) (PyData.dict [(.str "a", d)]) := .dic Nu3 upd_same (.cons (hd.same R3) .nil)
      replace du1 := du1.same ku3
      replace du2 := du2.same ku3
      generalize (upd W2 u3 (.dK [(Sum.inr "a", v)])) = W3 at ku3 R3 du3 du1 du2 ⊢
      refine ⟨_, rfl, by show 2 ≤ sizeLine; decide, fun u4 hu4 => ?_⟩
      have Nu4 := fresh_sam SB R3 hb1 hu4
      have ku4 : Same W3 (upd W3 u4 (.tup [v, V.int 1])) := keep_new (Same.refl _) hu4
      have R4 : Same H1 (upd W3 u4 (.tup [v, V.int 1])) := R3.trans ku4
      have du4 : Dv N (upd W3 u4 (.tup [v, V.int 1])) (.ref u4) (PyData.tuple [d, .int 1]) := .tup Nu4 upd_same (.cons (hd.same R4) (.cons (.int _) .nil))
      replace du1 := du1.same ku4
      replace du2 := du2.same ku4
      replace du3 := du3.same ku4
      generalize (upd W3 u4 (.tup [v, V.int 1])) = W4 at ku4 R4 du4 du1 du2 du3 ⊢
      refine ⟨_, rfl, by show 2 ≤ sizeLine; decide, fun u5 hu5 => ?_⟩
      have Nu5 := fresh_sam SB R4 hb1 hu5
      have ku5 : Same W4 (upd W4 u5 (.tup [V.int 1, v])) := keep_new (Same.refl _) hu5
      have R5 : Same H1 (upd W4 u5 (.tup [V.int 1, v])) := R4.trans ku5
      have du5 : Dv N (upd W4 u5 (.tup [V.int 1, v])) (.ref u5) (PyData.tuple [.int 1, d]) := .tup Nu5 upd_same (.cons (.int _) (.cons (hd.same R5) .nil))
      replace du1 := du1.same ku5
      replace du2 := du2.same ku5
      replace du3 := du3.same ku5
      replace du4 := du4.same ku5
      generalize (upd W4 u5 (.tup [V.int 1, v])) = W5 at ku5 R5 du5 du1 du2 du3 du4 ⊢
      refine ⟨by show 5 ≤ sizeLine; decide, fun l5 hl5 => ?_⟩
      have n5 : l5 ≠ b := (fresh_sam SB R5 hb1 hl5).1
      have A5 : DvAll N (upd W5 l5 (.lst [V.ref u1, V.ref u2, V.ref u3, V.ref u4, V.ref u5])) [V.ref u1, V.ref u2, V.ref u3, V.ref u4, V.ref u5] [PyData.tuple [d], PyData.list [d], PyData.dict [(.str "a", d)], PyData.tuple [d, .int 1], PyData.tuple [.int 1, d]] := DvAll.same (.cons du1 (.cons du2 (.cons du3 (.cons du4 (.cons du5 .nil)))) : DvAll N W5 [V.ref u1, V.ref u2, V.ref u3, V.ref u4, V.ref u5] [PyData.tuple [d], PyData.list [d], PyData.dict [(.str "a", d)], PyData.tuple [d, .int 1], PyData.tuple [.int 1, d]]) (keep_new (Same.refl _) hl5)
      refine ⟨b, l5, _, o1, [V.ref u1, V.ref u2, V.ref u3, V.ref u4, V.ref u5], rfl, new_at (R5 _ _ hb1) hl5, B1, by omega, upd_same, n5, by show 0 < 5; decide, by show 5 ≤ 1000; decide, fun j v1 o2 hv B2 => ?_⟩
      obtain ⟨d1, ed, hd1⟩ := A5.at hv
      have wd1 : Wf 100 (2 + (i + 1)) (150 + 3 * (i + 1)) d1 := by
        have w0 : G.WfA 100 (2 + i) (150 + 3 * i + 1) [d] := (G.WfA.cons wd (G.WfA.nil : G.WfA 100 (2 + i) 0 [])).mono (Nat.le_refl _) (Nat.le_refl _) (by omega)
        have w1 : Wf 100 (2 + i) 1 (.int 1) := (G.Wf.of (m := 100) (n := 0) (w := 1) (by decide +kernel)).mono (Nat.le_refl _) (Nat.zero_le _) (Nat.le_refl _)
        have w2 : Wf 100 (2 + i) 1 (.str "a") := (G.Wf.of (m := 100) (n := 0) (w := 1) (by decide +kernel)).mono (Nat.le_refl _) (Nat.zero_le _) (Nat.le_refl _)
        have hm := List.mem_of_getElem? ed
        simp only [List.mem_cons, List.not_mem_nil, or_false] at hm
        rcases hm with rfl | rfl | rfl | rfl | rfl
        · exact (G.Wf.tup w0).mono (Nat.le_refl _) (by omega) (by omega)
        · exact (G.Wf.lst w0).mono (Nat.le_refl _) (by omega) (by omega)
        · exact (G.Wf.dic wd w2).mono (Nat.le_refl _) (by omega) (by omega)
        · exact (G.Wf.tup (G.WfA.cons wd (G.WfA.cons w1 (G.WfA.nil : G.WfA 100 (2 + i) 0 [])))).mono (Nat.le_refl _) (by omega) (by omega)
        · exact (G.Wf.tup (G.WfA.cons w1 w0)).mono (Nat.le_refl _) (by omega) (by omega)
      refine ⟨v1, d1, o2, _, rfl, ?_, upd_same, B2.mono (by omega), hd1.keep fun c u nc _ e => (upd_ne nc.1).trans e, wd1⟩
      exact fun c u nc e => (upd_ne nc).trans (keep_new R5 hl5 c u (SB c u nc e))
    · rintro σ H1 ⟨v, d, o1, t3, rfl, SB, hb1, B1, hd, wd⟩
      exact ⟨_, rfl, k v d H1 o1 SB hb1 (B1.mono (by omega)) hd (wd.mono (Nat.le_refl _) (by omega) (by omega))⟩
end
end X1
set_option Elab.async false
set_option maxRecDepth 100000
set_option maxHeartbeats 4000000
set_option pp.maxSteps 600
namespace X1
open PySem L2
open G (Dv DvAll DvKv Wf WfA Keeps)
theorem pow_cast (k : Nat) : ((2 ^ k : Nat) : Int) = 2 ^ k := by rw [Int.natCast_pow]; rfl
/-! ### what the checks tell of data -/
def intD : PyData → Bool
  | .int _ => true
  | _ => false
def addrD (wd : Nat) : PyData → Bool
  | .int i => decide (0 ≤ i ∧ i < ((2 ^ wd : Nat) : Int))
  | _ => false
def mapD (wd : Nat) : PyData → Bool
  | .tuple ds => decide (ds.length ≤ 16) && ds.all (addrD wd)
  | _ => false
def widthD : PyData → Bool
  | .int i => decide (1 ≤ i ∧ i ≤ 16)
  | _ => false
def isI : PyData → Bool
  | .int _ | .bool _ => true
  | _ => false
def isB : PyData → Bool
  | .bool _ => true
  | _ => false
def isT : PyData → Bool
  | .tuple _ => true
  | _ => false
theorem isi_int {K : PySem.W.Frag} {N : Addr → Prop} {H : Hp} {v : V} {d : PyData} (h : Dv N H v d) : ∃ t, TyX K H v t ∧ PySem.W.kitOne K t (.type "int") = some (isI d) := by
  cases h with
  | non => exact ⟨_, .base .non, kit_ty (r := false) (by decide +kernel)⟩
  | bl x => exact ⟨_, .base (.bl x), kit_ty (r := true) (by decide +kernel)⟩
  | int i => exact ⟨_, .base (.int i), kit_ty (r := true) (by decide +kernel)⟩
  | str x => exact ⟨_, .base (.str x), kit_ty (r := false) (by decide +kernel)⟩
  | lst _ _ e _ => exact ⟨_, .base (.lst e), kit_ty (r := false) (by decide +kernel)⟩
  | tup _ e _ => exact ⟨_, .base (.tup e), kit_ty (r := false) (by decide +kernel)⟩
  | dic _ e _ => exact ⟨_, .base (.dK e), kit_ty (r := false) (by decide +kernel)⟩
theorem isi_bool {K : PySem.W.Frag} {N : Addr → Prop} {H : Hp} {v : V} {d : PyData} (h : Dv N H v d) : ∃ t, TyX K H v t ∧ PySem.W.kitOne K t (.type "bool") = some (isB d) := by
  cases h with
  | non => exact ⟨_, .base .non, kit_ty (r := false) (by decide +kernel)⟩
  | bl x => exact ⟨_, .base (.bl x), kit_ty (r := true) (by decide +kernel)⟩
  | int i => exact ⟨_, .base (.int i), kit_ty (r := false) (by decide +kernel)⟩
  | str x => exact ⟨_, .base (.str x), kit_ty (r := false) (by decide +kernel)⟩
  | lst _ _ e _ => exact ⟨_, .base (.lst e), kit_ty (r := false) (by decide +kernel)⟩
  | tup _ e _ => exact ⟨_, .base (.tup e), kit_ty (r := false) (by decide +kernel)⟩
  | dic _ e _ => exact ⟨_, .base (.dK e), kit_ty (r := false) (by decide +kernel)⟩
theorem isi_tup {K : PySem.W.Frag} {N : Addr → Prop} {H : Hp} {v : V} {d : PyData} (h : Dv N H v d) : ∃ t, TyX K H v t ∧ PySem.W.kitOne K t (.type "tuple") = some (isT d) := by
  cases h with
  | non => exact ⟨_, .base .non, kit_ty (r := false) (by decide +kernel)⟩
  | bl x => exact ⟨_, .base (.bl x), kit_ty (r := false) (by decide +kernel)⟩
  | int i => exact ⟨_, .base (.int i), kit_ty (r := false) (by decide +kernel)⟩
  | str x => exact ⟨_, .base (.str x), kit_ty (r := false) (by decide +kernel)⟩
  | lst _ _ e _ => exact ⟨_, .base (.lst e), kit_ty (r := false) (by decide +kernel)⟩
  | tup _ e _ => exact ⟨_, .base (.tup e), kit_ty (r := true) (by decide +kernel)⟩
  | dic _ e _ => exact ⟨_, .base (.dK e), kit_ty (r := false) (by decide +kernel)⟩
section
variable {P : Program} {w : World} {K : PySem.W.Frag} {mg : Str → Option Value} {base : Heap}
/-! ### is_int, of the program and of the law -/
def spInt : Sp := fun vs H Q _ => ∃ (N : Addr → Prop) (v : V) (d : PyData), vs = [v] ∧ Dv N H v d ∧ Q (.bl (intD d)) H
theorem scIsInt : FnScope ["value"] ["value"] (defScope sIsInt) := ⟨rfl, rfl, rfl, by decide +kernel, rfl, by decide +kernel, by decide +kernel⟩
theorem ok_isInt {f : Addr} {fd : FuncData} (A0 : At K mg "is_int" sIsInt ["value"] f fd) (T : Txt K mg) : FnOk P w K mg base CX0 1 f fd ["value"] spInt := by
  refine A0.fn.ok scIsInt (fun vs H Q E h => ?_) (fun cdv A outer s H vs Q E hr h => ?_)
  · obtain ⟨N, v, d, rfl, _⟩ := h
    rfl
  · obtain ⟨N, v, d, rfl, hd, k⟩ := h
    refine ⟨_, pss_one (ps_ret (pe_and (pe_callB call_isi (by rfl) T.isinstance (by decide +kernel) (pa_cons (pv 0) (pa_cons (pe_bltn (v := .ty "int") (by rfl) T.int (by decide +kernel) rfl) pa_nil))) (pe_one (pe_not (pe_callB call_isi (by rfl) T.isinstance (by decide +kernel) (pa_cons (pv 0) (pa_cons (pe_bltn (v := .ty "bool") (by rfl) T.bool (by decide +kernel) rfl) pa_nil))))))), ?_⟩
    obtain ⟨t1, ty1, e1⟩ := isi_int (K := K) hd
    obtain ⟨t2, ty2, e2⟩ := isi_bool (K := K) hd
    refine ⟨_, rfl, _, _, _, _, _, rfl, .ty _, ty1, e1, _, rfl, ?_⟩
    cases hd with
    | int i => exact iteT ⟨_, rfl, _, _, _, _, _, rfl, .ty _, ty2, e2, _, rfl, k⟩
    | bl x => exact iteT ⟨_, rfl, _, _, _, _, _, rfl, .ty _, ty2, e2, _, rfl, k⟩
    | non => exact iteF k
    | str x => exact iteF k
    | lst _ _ _ _ => exact iteF k
    | tup _ _ _ => exact iteF k
    | dic _ _ _ => exact iteF k
theorem scLInt : FnScope ["_law_thing"] ["_law_thing"] (defScope sLInt) := ⟨rfl, rfl, rfl, by decide +kernel, rfl, by decide +kernel, by decide +kernel⟩
theorem ok_lInt {f : Addr} {fd : FuncData} (A0 : At K mg "_law_is_int" sLInt ["_law_thing"] f fd) (T : Txt K mg) : FnOk P w K mg base CX0 1 f fd ["_law_thing"] spInt := by
  refine A0.fn.ok scLInt (fun vs H Q E h => ?_) (fun cdv A outer s H vs Q E hr h => ?_)
  · obtain ⟨N, v, d, rfl, _⟩ := h
    rfl
  · obtain ⟨N, v, d, rfl, hd, k⟩ := h
    refine ⟨_, pss_one (ps_ret (pe_and (pe_callB call_isi (by rfl) T.isinstance (by decide +kernel) (pa_cons (pv 0) (pa_cons (pe_bltn (v := .ty "int") (by rfl) T.int (by decide +kernel) rfl) pa_nil))) (pe_one (pe_not (pe_callB call_isi (by rfl) T.isinstance (by decide +kernel) (pa_cons (pv 0) (pa_cons (pe_bltn (v := .ty "bool") (by rfl) T.bool (by decide +kernel) rfl) pa_nil))))))), ?_⟩
    obtain ⟨t1, ty1, e1⟩ := isi_int (K := K) hd
    obtain ⟨t2, ty2, e2⟩ := isi_bool (K := K) hd
    refine ⟨_, rfl, _, _, _, _, _, rfl, .ty _, ty1, e1, _, rfl, ?_⟩
    cases hd with
    | int i => exact iteT ⟨_, rfl, _, _, _, _, _, rfl, .ty _, ty2, e2, _, rfl, k⟩
    | bl x => exact iteT ⟨_, rfl, _, _, _, _, _, rfl, .ty _, ty2, e2, _, rfl, k⟩
    | non => exact iteF k
    | str x => exact iteF k
    | lst _ _ _ _ => exact iteF k
    | tup _ _ _ => exact iteF k
    | dic _ _ _ => exact iteF k
/-! ### is_address, of both -/
def spAddr : Sp := fun vs H Q _ => ∃ (wd : Nat) (N : Addr → Prop) (v : V) (d : PyData), vs = [.int (wd : Int), v] ∧ wd ≤ 1000 ∧ Dv N H v d ∧ Q (.bl (addrD wd d)) H
theorem scIsAddr : FnScope ["width", "value"] ["width", "value"] (defScope sIsAddr) := ⟨rfl, rfl, rfl, by decide +kernel, rfl, by decide +kernel, by decide +kernel⟩
theorem ok_isAddr {f f1 : Addr} {fd fd1 : FuncData} (A0 : At K mg "is_address" sIsAddr ["width", "value"] f fd) (A1 : At K mg "is_int" sIsInt ["value"] f1 fd1) (T : Txt K mg) : FnOk P w K mg base CX0 2 f fd ["width", "value"] spAddr := by
  have G1 : FnOk P w K mg base CX0 1 f1 fd1 ["value"] spInt := ok_isInt A1 T
  refine A0.fn.ok scIsAddr (fun vs H Q E h => ?_) (fun cdv A outer s H vs Q E hr h => ?_)
  · obtain ⟨wd, N, v, d, rfl, _⟩ := h
    rfl
  · obtain ⟨wd, N, v, d, rfl, hw, hd, k⟩ := h
    refine ⟨_, pss_one (ps_ret (pe_and (pe_call G1 hr (by rfl) A1.mg A1.fn.kp A1.bi .nil pass0 (pa_cons (pv 1) pa_nil)) (pe_one (pe_chain op_le op_lt pe_int (pv 1) (pe_op op_shl pe_int (pv 0)))))), ?_⟩
    refine ⟨_, rfl, N, v, d, rfl, hd, _, rfl, ?_⟩
    cases hd with
    | int i =>
      refine iteT ?_
      refine ⟨_, rfl, _, _, rfl, rfl, _, rfl, ?_⟩
      by_cases h0 : 0 ≤ i
      · refine iteTb (decide_eq_true h0) ?_
        refine ⟨_, rfl, _, _, rfl, rfl, ⟨by omega, by omega, by decide⟩, _, _, rfl, rfl, ?_⟩
        refine qv (Eq.symm ?_) k
        show V.bl (decide (0 ≤ i ∧ i < ((2 ^ wd : Nat) : Int))) = V.bl (decide (i < (1 : Int) * 2 ^ ((wd : Int)).toNat))
        rw [Int.one_mul, Int.toNat_natCast, ← pow_cast]
        congr 1
        rw [Bool.eq_iff_iff, decide_eq_true_iff, decide_eq_true_iff]
        exact ⟨fun z => z.2, fun z => ⟨h0, z⟩⟩
      · refine iteFb (decide_eq_false h0) ?_
        refine qv (Eq.symm ?_) k
        show V.bl (decide (0 ≤ i ∧ i < ((2 ^ wd : Nat) : Int))) = V.bl false
        rw [decide_eq_false fun z => h0 z.1]
    | bl x => exact iteF k
    | non => exact iteF k
    | str x => exact iteF k
    | lst _ _ _ _ => exact iteF k
    | tup _ _ _ => exact iteF k
    | dic _ _ _ => exact iteF k
theorem scLSpot : FnScope ["_law_size", "_law_thing"] ["_law_size", "_law_thing"] (defScope sLSpot) := ⟨rfl, rfl, rfl, by decide +kernel, rfl, by decide +kernel, by decide +kernel⟩
theorem ok_lSpot {f f1 : Addr} {fd fd1 : FuncData} (A0 : At K mg "_law_is_spot" sLSpot ["_law_size", "_law_thing"] f fd) (A1 : At K mg "_law_is_int" sLInt ["_law_thing"] f1 fd1) (T : Txt K mg) : FnOk P w K mg base CX0 2 f fd ["_law_size", "_law_thing"] spAddr := by
  have G1 : FnOk P w K mg base CX0 1 f1 fd1 ["_law_thing"] spInt := ok_lInt A1 T
  refine A0.fn.ok scLSpot (fun vs H Q E h => ?_) (fun cdv A outer s H vs Q E hr h => ?_)
  · obtain ⟨wd, N, v, d, rfl, _⟩ := h
    rfl
  · obtain ⟨wd, N, v, d, rfl, hw, hd, k⟩ := h
    refine ⟨_, pss_one (ps_ret (pe_and (pe_call G1 hr (by rfl) A1.mg A1.fn.kp A1.bi .nil pass0 (pa_cons (pv 1) pa_nil)) (pe_one (pe_chain op_le op_lt pe_int (pv 1) (pe_op op_shl pe_int (pv 0)))))), ?_⟩
    refine ⟨_, rfl, N, v, d, rfl, hd, _, rfl, ?_⟩
    cases hd with
    | int i =>
      refine iteT ?_
      refine ⟨_, rfl, _, _, rfl, rfl, _, rfl, ?_⟩
      by_cases h0 : 0 ≤ i
      · refine iteTb (decide_eq_true h0) ?_
        refine ⟨_, rfl, _, _, rfl, rfl, ⟨by omega, by omega, by decide⟩, _, _, rfl, rfl, ?_⟩
        refine qv (Eq.symm ?_) k
        show V.bl (decide (0 ≤ i ∧ i < ((2 ^ wd : Nat) : Int))) = V.bl (decide (i < (1 : Int) * 2 ^ ((wd : Int)).toNat))
        rw [Int.one_mul, Int.toNat_natCast, ← pow_cast]
        congr 1
        rw [Bool.eq_iff_iff, decide_eq_true_iff, decide_eq_true_iff]
        exact ⟨fun z => z.2, fun z => ⟨h0, z⟩⟩
      · refine iteFb (decide_eq_false h0) ?_
        refine qv (Eq.symm ?_) k
        show V.bl (decide (0 ≤ i ∧ i < ((2 ^ wd : Nat) : Int))) = V.bl false
        rw [decide_eq_false fun z => h0 z.1]
    | bl x => exact iteF k
    | non => exact iteF k
    | str x => exact iteF k
    | lst _ _ _ _ => exact iteF k
    | tup _ _ _ => exact iteF k
    | dic _ _ _ => exact iteF k
/-! ### are_addresses -/
def spAddrs : Sp := fun vs H Q _ => ∃ (wd : Nat) (N : Addr → Prop) (v : V) (d : PyData), vs = [.int (wd : Int), v, .int 16] ∧ wd ≤ 1000 ∧ Dv N H v d ∧ ∀ H', Same H H' → Q (.bl (mapD wd d)) H'
theorem scAddrs : FnScope ["width", "value", "most", "item"] ["width", "value", "most"] (defScope sAreAddrs) := ⟨rfl, rfl, rfl, by decide +kernel, rfl, by decide +kernel, by decide +kernel⟩
theorem ok_addrs {f f1 f2 : Addr} {fd fd1 fd2 : FuncData} (A0 : At K mg "are_addresses" sAreAddrs ["width", "value", "most"] f fd) (A1 : At K mg "is_int" sIsInt ["value"] f1 fd1) (A2 : At K mg "is_address" sIsAddr ["width", "value"] f2 fd2) (T : Txt K mg) : FnOk P w K mg base CX0 3 f fd ["width", "value", "most"] spAddrs := by
  have G2 : FnOk P w K mg base CX0 2 f2 fd2 ["width", "value"] spAddr := ok_isAddr A2 A1 T
  refine A0.fn.ok scAddrs (fun vs H Q E h => ?_) (fun cdv A outer s H vs Q E hr h => ?_)
  · obtain ⟨wd, N, v, d, rfl, _⟩ := h
    rfl
  · obtain ⟨wd, N, v, d, rfl, hw, hd, k⟩ := h
    refine ⟨_, pss_cons (ps_if (PW.pt (pw_or (pt_not (pt_val (pe_callB call_isi (by rfl) T.isinstance (by decide +kernel) (pa_cons (pv 1) (pa_cons (pe_bltn (v := .ty "tuple") (by rfl) T.tuple (by decide +kernel) rfl) pa_nil)))))
        (pw_or1 (pt_cmpR op_gt (pe_callB call_len_seq (by rfl) T.len PySem.boot_len (pa_cons (pv 1) pa_nil)) (pv 2) (nomark _))))) (pss_one (ps_ret pe_bl)) pss_nil)
      (pss_one (ps_ret (pe_callB (cr_all rfl) (by rfl) T.all (by decide +kernel) (pa_cons (pe_lc (own := [("item", 3)]) (g := gName 3) (tt := tYes) rfl scAddrs.nd (pi_tup (pv 1))
        (blkOk_by (N := ["width", "value", "most", "item"]) (sc := defScope sAreAddrs) (by decide +kernel)) (fun _ _ _ _ _ => pg_name (i := 3) scAddrs.nd rfl (Or.inl rfl)) (fun _ _ _ _ _ => pts_nil)
        (fun _ _ _ _ _ => pe_call G2 hr (by rfl) A2.mg A2.fn.kp A2.bi .nil pass0 (pa_cons (pv 0) (pa_cons (pv 3) pa_nil)))) pa_nil)))), ?_⟩
    obtain ⟨t1, ty1, e1⟩ := isi_tup (K := K) hd
    refine ⟨_, rfl, _, _, _, _, _, rfl, .ty _, ty1, e1, _, rfl, ?_⟩
    cases hd with
    | tup n hp ha =>
      rename_i p xs ds
      refine iteF ?_
      have hlen := ha.len
      refine ⟨_, rfl, p, _, rfl, .inr (SqT.of hp), _, rfl, _, _, rfl, rfl, _, rfl, ?_⟩
      by_cases hl : ds.length ≤ 16
      · refine iteFb (decide_eq_false (by omega)) ?_
        refine ⟨_, rfl, p, rfl, ⟨_, SqT.of hp⟩, fun D hD => ?_⟩
        have npD : p ≠ D := ne_of_none hp hD
        refine lc_tup (K := K) (a := p) (xs := xs) (fun i H' => (∀ b o, b ≠ D → H b = some o → H' b = some o) ∧ H' D = some (.lst (((ds.take i).map (addrD wd)).map V.bl))) ⟨fun b o n e => by rw [upd_ne n]; exact e, upd_same⟩ (fun i H' _ ⟨s1, _⟩ => SqT.of (s1 _ _ npD hp)) ?_ ?_
        · rintro i x H' hi ⟨s1, hd1⟩
          obtain ⟨dx, ed, hdx⟩ := ha.at hi
          have hdx' : Dv (fun a => H a ≠ none) H x dx := hdx.to fun c u e _ => by rw [e]; exact fun z => nomatch z
          have hdx2 : Dv (fun a => H a ≠ none) H' x dx := hdx'.keep fun c u _ _ e => s1 c u (ne_of_none e hD) e
          have hil : i < xs.length := (List.getElem?_eq_some_iff.mp hi).1
          refine ⟨rfl, yes (iteT ?_)⟩
          refine ⟨_, rfl, _, rfl, wd, _, x, dx, rfl, hw, hdx2, _, hd1, ?_, fun b o n e => by rw [upd_ne n]; exact s1 b o n e, ?_⟩
          · rw [List.length_map, List.length_map, List.length_take]
            exact Nat.lt_of_le_of_lt (Nat.min_le_left _ _) (Nat.lt_of_lt_of_le hil (by rw [hlen]; exact Nat.le_trans hl (by decide)))
          · rw [upd_same, List.take_add_one, ed, List.map_append, List.map_append]
            rfl
        · rintro H' ⟨s1, hd1⟩
          rw [hlen, List.take_of_length_le (Nat.le_refl _)] at hd1
          refine ⟨D, _, rfl, SqL.of hd1, ?_⟩
          refine qv (Eq.symm ?_) (k H' fun b o e => s1 b o (ne_of_none e hD) e)
          show V.bl (decide (ds.length ≤ 16) && ds.all (addrD wd)) = _
          rw [decide_eq_true hl, Bool.true_and, List.all_map]
          rfl
      · refine iteTb (decide_eq_true (by omega)) ?_
        refine qv (Eq.symm ?_) (k H (Same.refl H))
        show V.bl (decide (ds.length ≤ 16) && ds.all (addrD wd)) = _
        rw [decide_eq_false hl]
        rfl
    | int i => exact iteT (k H (Same.refl H))
    | bl x => exact iteT (k H (Same.refl H))
    | non => exact iteT (k H (Same.refl H))
    | str x => exact iteT (k H (Same.refl H))
    | lst _ _ _ _ => exact iteT (k H (Same.refl H))
    | dic _ _ _ => exact iteT (k H (Same.refl H))
/-! ### are_masks -/
def spMasks : Sp := fun vs H Q _ => ∃ (wd : Nat) (N : Addr → Prop) (v : V) (d : PyData), vs = [.int (wd : Int), v] ∧ wd ≤ 1000 ∧ Dv N H v d ∧ ∀ H', Same H H' → Q (.bl (mapD wd d)) H'
theorem scMasks : FnScope ["width", "value"] ["width", "value"] (defScope sAreMasks) := ⟨rfl, rfl, rfl, by decide +kernel, rfl, by decide +kernel, by decide +kernel⟩
theorem ok_masks {f f1 f2 f3 : Addr} {fd fd1 fd2 fd3 : FuncData} (A0 : At K mg "are_masks" sAreMasks ["width", "value"] f fd) (A1 : At K mg "is_int" sIsInt ["value"] f1 fd1) (A2 : At K mg "is_address" sIsAddr ["width", "value"] f2 fd2) (A3 : At K mg "are_addresses" sAreAddrs ["width", "value", "most"] f3 fd3) (T : Txt K mg) :
    FnOk P w K mg base CX0 4 f fd ["width", "value"] spMasks := by
  have G3 : FnOk P w K mg base CX0 3 f3 fd3 ["width", "value", "most"] spAddrs := ok_addrs A3 A1 A2 T
  obtain ⟨tw, hmw⟩ := T.mMasks
  refine A0.fn.ok scMasks (fun vs H Q E h => ?_) (fun cdv A outer s H vs Q E hr h => ?_)
  · obtain ⟨wd, N, v, d, rfl, _⟩ := h
    rfl
  · obtain ⟨wd, N, v, d, rfl, hw, hd, k⟩ := h
    refine ⟨_, pss_one (ps_ret (pe_call G3 hr (by rfl) A3.mg A3.fn.kp A3.bi .nil pass0 (pa_cons (pv 0) (pa_cons (pv 1) (pa_cons (pe_glob (v := .int 16) (by rfl) hmw ⟨_, rfl⟩) pa_nil))))), ?_⟩
    exact ⟨_, rfl, _, rfl, wd, N, v, d, rfl, hw, hd, k⟩
/-! ### _law_is_plan -/
theorem scLPlan : FnScope ["_law_size", "_law_thing", "_law_part"] ["_law_size", "_law_thing"] (defScope sLPlan) := ⟨rfl, rfl, rfl, by decide +kernel, rfl, by decide +kernel, by decide +kernel⟩
theorem ok_lPlan {f f1 f2 : Addr} {fd fd1 fd2 : FuncData} (A0 : At K mg "_law_is_plan" sLPlan ["_law_size", "_law_thing"] f fd) (A1 : At K mg "_law_is_int" sLInt ["_law_thing"] f1 fd1) (A2 : At K mg "_law_is_spot" sLSpot ["_law_size", "_law_thing"] f2 fd2) (T : Txt K mg) : FnOk P w K mg base CX0 3 f fd ["_law_size", "_law_thing"] spMasks := by
  have G2 : FnOk P w K mg base CX0 2 f2 fd2 ["_law_size", "_law_thing"] spAddr := ok_lSpot A2 A1 T
  refine A0.fn.ok scLPlan (fun vs H Q E h => ?_) (fun cdv A outer s H vs Q E hr h => ?_)
  · obtain ⟨wd, N, v, d, rfl, _⟩ := h
    rfl
  · obtain ⟨wd, N, v, d, rfl, hw, hd, k⟩ := h
    refine ⟨_, pss_one (ps_ret (pe_and (pe_callB call_isi (by rfl) T.isinstance (by decide +kernel) (pa_cons (pv 1) (pa_cons (pe_bltn (v := .ty "tuple") (by rfl) T.tuple (by decide +kernel) rfl) pa_nil))) (pe_and (pe_cmpR op_lt (pe_callB call_len_seq (by rfl) T.len PySem.boot_len (pa_cons (pv 1) pa_nil)) pe_int (nomark _))
      (pe_one (pe_callB (cr_all rfl) (by rfl) T.all (by decide +kernel) (pa_cons (pe_lc (own := [("_law_part", 2)]) (g := gName 2) (tt := tYes) rfl scLPlan.nd (pi_tup (pv 1))
        (blkOk_by (N := ["_law_size", "_law_thing", "_law_part"]) (sc := defScope sLPlan) (by decide +kernel)) (fun _ _ _ _ _ => pg_name (i := 2) scLPlan.nd rfl (Or.inl rfl)) (fun _ _ _ _ _ => pts_nil)
        (fun _ _ _ _ _ => pe_call G2 hr (by rfl) A2.mg A2.fn.kp A2.bi .nil pass0 (pa_cons (pv 0) (pa_cons (pv 2) pa_nil)))) pa_nil)))))), ?_⟩
    obtain ⟨t1, ty1, e1⟩ := isi_tup (K := K) hd
    refine ⟨_, rfl, _, _, _, _, _, rfl, .ty _, ty1, e1, _, rfl, ?_⟩
    cases hd with
    | tup n hp ha =>
      rename_i p xs ds
      refine iteT ?_
      have hlen := ha.len
      refine ⟨_, rfl, p, _, rfl, .inr (SqT.of hp), _, _, rfl, rfl, _, rfl, ?_⟩
      by_cases hl : ds.length ≤ 16
      · refine iteTb (decide_eq_true (by omega)) ?_
        refine ⟨_, rfl, p, rfl, ⟨_, SqT.of hp⟩, fun D hD => ?_⟩
        have npD : p ≠ D := ne_of_none hp hD
        refine lc_tup (K := K) (a := p) (xs := xs) (fun i H' => (∀ b o, b ≠ D → H b = some o → H' b = some o) ∧ H' D = some (.lst (((ds.take i).map (addrD wd)).map V.bl))) ⟨fun b o n e => by rw [upd_ne n]; exact e, upd_same⟩ (fun i H' _ ⟨s1, _⟩ => SqT.of (s1 _ _ npD hp)) ?_ ?_
        · rintro i x H' hi ⟨s1, hd1⟩
          obtain ⟨dx, ed, hdx⟩ := ha.at hi
          have hdx' : Dv (fun a => H a ≠ none) H x dx := hdx.to fun c u e _ => by rw [e]; exact fun z => nomatch z
          have hdx2 : Dv (fun a => H a ≠ none) H' x dx := hdx'.keep fun c u _ _ e => s1 c u (ne_of_none e hD) e
          have hil : i < xs.length := (List.getElem?_eq_some_iff.mp hi).1
          refine ⟨rfl, yes (iteT ?_)⟩
          refine ⟨_, rfl, _, rfl, wd, _, x, dx, rfl, hw, hdx2, _, hd1, ?_, fun b o n e => by rw [upd_ne n]; exact s1 b o n e, ?_⟩
          · rw [List.length_map, List.length_map, List.length_take]
            exact Nat.lt_of_le_of_lt (Nat.min_le_left _ _) (Nat.lt_of_lt_of_le hil (by rw [hlen]; exact Nat.le_trans hl (by decide)))
          · rw [upd_same, List.take_add_one, ed, List.map_append, List.map_append]
            rfl
        · rintro H' ⟨s1, hd1⟩
          rw [hlen, List.take_of_length_le (Nat.le_refl _)] at hd1
          refine ⟨D, _, rfl, SqL.of hd1, ?_⟩
          refine qv (Eq.symm ?_) (k H' fun b o e => s1 b o (ne_of_none e hD) e)
          show V.bl (decide (ds.length ≤ 16) && ds.all (addrD wd)) = _
          rw [decide_eq_true hl, Bool.true_and, List.all_map]
          rfl
      · refine iteFb (decide_eq_false (by omega)) ?_
        refine qv (Eq.symm ?_) (k H (Same.refl H))
        show V.bl (decide (ds.length ≤ 16) && ds.all (addrD wd)) = _
        rw [decide_eq_false hl]
        rfl
    | int i => exact iteF (k H (Same.refl H))
    | bl x => exact iteF (k H (Same.refl H))
    | non => exact iteF (k H (Same.refl H))
    | str x => exact iteF (k H (Same.refl H))
    | lst _ _ _ _ => exact iteF (k H (Same.refl H))
    | dic _ _ _ => exact iteF (k H (Same.refl H))
/-! ### _law_is_size -/
def spSize : Sp := fun vs H Q _ => ∃ (N : Addr → Prop) (v : V) (d : PyData), vs = [v] ∧ Dv N H v d ∧ Q (.bl (widthD d)) H
theorem scLSize : FnScope ["_law_thing"] ["_law_thing"] (defScope sLSize) := ⟨rfl, rfl, rfl, by decide +kernel, rfl, by decide +kernel, by decide +kernel⟩
theorem ok_lSize {f f1 : Addr} {fd fd1 : FuncData} (A0 : At K mg "_law_is_size" sLSize ["_law_thing"] f fd) (A1 : At K mg "_law_is_int" sLInt ["_law_thing"] f1 fd1) (T : Txt K mg) : FnOk P w K mg base CX0 2 f fd ["_law_thing"] spSize := by
  have G1 : FnOk P w K mg base CX0 1 f1 fd1 ["_law_thing"] spInt := ok_lInt A1 T
  refine A0.fn.ok scLSize (fun vs H Q E h => ?_) (fun cdv A outer s H vs Q E hr h => ?_)
  · obtain ⟨N, v, d, rfl, _⟩ := h
    rfl
  · obtain ⟨N, v, d, rfl, hd, k⟩ := h
    refine ⟨_, pss_one (ps_ret (pe_and (pe_call G1 hr (by rfl) A1.mg A1.fn.kp A1.bi .nil pass0 (pa_cons (pv 0) pa_nil)) (pe_one (pe_chain op_lt op_lt pe_int (pv 0) pe_int)))), ?_⟩
    refine ⟨_, rfl, N, v, d, rfl, hd, _, rfl, ?_⟩
    cases hd with
    | int i =>
      refine iteT ?_
      refine ⟨_, rfl, _, _, rfl, rfl, _, rfl, ?_⟩
      by_cases h0 : 0 < i
      · refine iteTb (decide_eq_true h0) ?_
        refine ⟨_, _, rfl, rfl, ?_⟩
        refine qv (Eq.symm ?_) k
        show V.bl (decide (1 ≤ i ∧ i ≤ 16)) = V.bl (decide (i < 17))
        congr 1
        rw [Bool.eq_iff_iff, decide_eq_true_iff, decide_eq_true_iff]
        omega
      · refine iteFb (decide_eq_false h0) ?_
        refine qv (Eq.symm ?_) k
        show V.bl (decide (1 ≤ i ∧ i ≤ 16)) = V.bl false
        rw [decide_eq_false fun z => h0 (by omega)]
    | bl x => exact iteF k
    | non => exact iteF k
    | str x => exact iteF k
    | lst _ _ _ _ => exact iteF k
    | tup _ _ _ => exact iteF k
    | dic _ _ _ => exact iteF k
end
end X1
set_option Elab.async false
set_option maxRecDepth 100000
set_option maxHeartbeats 4000000
/-! t[::-1] of a tuple -/
namespace G
open PySem PySem.Spec PyProof.Rows L2 HT
section
variable {prog : Program} {w : World} {A : Around} {E : Value → Shared → Prop} {s : Shared}
theorem pick_rev (xs : Array Value) : (List.range xs.size).filterMap (fun (m : Nat) => xs[(((xs.size : Int) - 1) + (m : Int) * (-1)).toNat]?) = xs.toList.reverse := by
  have e : (fun (m : Nat) => xs[(((xs.size : Int) - 1) + (m : Int) * (-1)).toNat]?) = (fun x => xs[x]?) ∘ fun k => xs.size - 1 - k := by
    funext m
    show _ = xs[xs.size - 1 - m]?
    rw [show (((xs.size : Int) - 1) + (m : Int) * (-1)).toNat = xs.size - 1 - m by omega]
  rw [e, ← List.filterMap_map, PySem.W.krv_range, List.filterMap_reverse, PySem.W.krv_all]
theorem places_rev (n : Nat) : Builtin.Slice.slicePlaces ((n : Int) - 1) (-1) (-1) = n := by
  unfold Builtin.Slice.slicePlaces
  simp only [show ¬ ((-1 : Int) > 0) by omega, if_false, show (-(-1 : Int)) = 1 from rfl, Int.ediv_one]
  split <;> omega
theorem applied_rev {sl : Addr} {vl vu vs : Value} {n : Nat} {Q : Int × Int × Nat → Shared → Prop} (hs : s.heap.IsSliceOf sl vl vu vs) (pl : IsPart vl none) (pu : IsPart vu none) (ps : IsPart vs (some (-1)))
    (h : Q ((n : Int) - 1, -1, n) s) : wpAny (model prog w) A (Builtin.Slice.sliceApplied (.ref sl) (pure (n : Int))) Q E s := by
  obtain ⟨os, hos, hcs, hds⟩ := id hs
  unfold Builtin.Slice.sliceApplied Builtin.Slice.sliceFields
  refine wpAny_bind (wpAny_bind (wpAny_field hos hds (x := vl) rfl (wpAny_bind (wpAny_field hos hds (x := vu) rfl (wpAny_bind (wpAny_field hos hds (x := vs) rfl (wpAny_pure (wpAny_bind (slicePart_ ps ?_)))))))))
  show wpAny _ _ (if ((-1 : Int) == 0) = true then _ else _) _ _ s
  rw [if_neg (by decide)]
  refine wpAny_bind (slicePart_ pl (wpAny_bind (slicePart_ pu (wpAny_bind (wpAny_pure (?_ : wpAny _ _ _ _ _ s))))))
  show wpAny _ _ (pure (((n : Int) - 1), (-1 : Int), Builtin.Slice.slicePlaces ((n : Int) - 1) (-1) (-1))) _ _ s
  rw [places_rev]
  exact wpAny_pure h
theorem item_rev {t sl : Addr} {items : Array Value} {vl vu vs : Value} {Q : Value → Shared → Prop} (ht : IsTup s.heap t items) (hs : s.heap.IsSliceOf sl vl vu vs) (pl : IsPart vl none) (pu : IsPart vu none) (ps : IsPart vs (some (-1)))
    (h : Q (.ref s.heap.objs.size) { s with heap := s.heap.push { cls := .type "tuple", data := .seq items.toList.reverse.toArray } }) (hz : items.size ≤ sizeLine) : wpAny (model prog w) A (getItem (.ref t) (.ref sl)) Q E s := by
  have fits : sizeOk (.seq items.toList.reverse.toArray) := by
    show items.toList.reverse.toArray.size ≤ sizeLine
    rw [List.size_toArray, List.length_reverse, Array.length_toList]
    exact hz
  have hTs : s.TypeIs (.ref sl) "slice" := hs.elim fun os q => ⟨os, q.1, q.2.1⟩
  unfold getItem
  try with_reducible refine wpAny_holding ?_
  first | refine wpAny_bind (wpAny_pure ?_) | skip
  refine wpAny_bind (wpAny_sequenceKey ht.typeIs (by decide) (wpAny_bind (wpAny_callSpecial?_slot (name := Str.ofString "__getitem__") ht.typeIs PyProof.Rows.slot_tuple_getitem
    (wpAny_call_entry PyProof.Rows.slot_tuple_getitem ht.typeIs entry_tuple_getitem ?_ (args_tuple_getitem _ _)))))
  show wpAny _ _ (Builtin.Tuple.tupleItemsOf (.ref t) >>= fun _ => _) _ _ s
  refine wpAny_bind (tupleItemsOf_ ht (wpAny_bind (wpAny_typeOf hTs ?_)))
  rw [if_pos (by decide)]
  refine wpAny_bind (applied_rev (n := items.size) hs pl pu ps ?_)
  have no : ¬ ((((items.size : Int) - 1) == 0 && (-1 : Int) == 1 && items.size == items.size) = true) := by simp
  show wpAny _ _ (if (((items.size : Int) - 1) == 0 && (-1 : Int) == 1 && items.size == items.size) = true then _ else _) _ _ s
  rw [if_neg no, pick_rev]
  first
    | exact wpAny_bind (m := Builtin.Tuple.tupleExact _) (wpAny_newObj_type (wpAny_pure ⟨_, rfl, wpAny_pure h⟩) fits)
    | exact wpAny_bind (m := Builtin.Tuple.tupleExact _) (wpAny_newObj_type (wpAny_bind (wpAny_pure (wpAny_pure ⟨_, rfl, wpAny_pure h⟩))) fits)
    | exact wpAny_bind (wpAny_bind (m := Builtin.Tuple.tupleExact _) (wpAny_newObj_type (wpAny_pure (wpAny_pure ⟨_, rfl, wpAny_pure h⟩)) fits))
    | exact wpAny_bind (wpAny_bind (m := Builtin.Tuple.tupleExact _) (wpAny_newObj_type (wpAny_pure ⟨_, rfl, wpAny_pure h⟩) fits))
end
section
variable {X : Cx}
/-- t[::-1] -/
def tRevT (K : PySem.W.Frag) (te : TE) : TE := fun σ H Q => te σ H fun x H1 => ∃ a xs, x = .ref a ∧ SqT K H1 a xs ∧ ∀ p, H1 p = none → Q (.ref p) (upd H1 p (.tup xs.reverse))
theorem pe_revT {e : Expr} {te : TE} {k : Nat} {p1 p2 p3 pos : Pos} (he : PE X e te) : PE X (.Subscript e (.Slice none none (some (.UnaryOp .USub (.Constant (.int 1) k p1) p2)) p3) pos) (tRevT X.K te) := by
  refine ⟨fun pins s σ H Q I h => Subscript_ (thn (he.run pins s σ H _ I h) fun v s1 ⟨x, H1, I1, r1, a, xs, ex, hx, q⟩ => ?_)⟩
  subst ex
  cases r1
  have step : PO X (some (.UnaryOp .USub (.Constant (.int 1) k p1) p2)) (tPart (tUn (rU fun i => .int (-i)) (tC (.int 1)))) := po_some (pe_un un_neg pe_int)
  refine wpAny_Slice (thn (po_none.run pins s1 σ H1 (fun o H2 => o = none ∧ H2 = H1) I1 ⟨rfl, rfl⟩) fun vl s2 ⟨l, H2, I2, pl, e1, e2⟩ => ?_)
  subst e1 e2
  refine thn (po_none.run pins s2 σ H2 (fun o H3 => o = none ∧ H3 = H2) I2 ⟨rfl, rfl⟩) fun vu s3 ⟨u, H3, I3, pu, e1, e2⟩ => ?_
  subst e1 e2
  refine thn (step.run pins s3 σ H3 (fun o H4 => o = some (-1) ∧ H4 = H3) I3 ⟨1, rfl, -1, rfl, rfl, rfl⟩) fun vs s4 ⟨o, H4, I4, ps, e1, e2⟩ => ?_
  subst e1 e2
  have I5 : Inv X pins σ H4 { s4 with heap := s4.heap.push { cls := .type "slice", data := .fields #[vl, vu, vs] } } := I4.kept (t' := s4.toks) fun b ob z => Heap.get?_push_of_some _ z
  obtain ⟨its, r, ht, hz⟩ := I5.tuple hx
  have hlen := r.length
  show wpAny (model X.prog X.w) X.A (subscriptTail e (.Slice none none (some (.UnaryOp .USub (.Constant (.int 1) k p1) p2)) p3) (.ref a) (.ref s4.heap.objs.size)) _ X.xe _
  refine tail_any (ops := [.ref a, .ref s4.heap.objs.size]) ht.typeIs PyProof.Rows.slot_tuple_getitem.lookup (item_rev ht (Heap.IsSliceOf.new _ vl vu vs) pl pu ps ?_ (by rw [List.size_toArray]; omega)) (by with_unfolding_all rfl)
  refine ⟨.ref _, _, I5.laid (t' := s4.toks) (o := .tup xs.reverse) (fun b ob z => Heap.get?_push_of_some _ z) (Nat.le_refl _) ?_, rfl, q _ (I5.hok.fresh (Nat.le_refl _))⟩
  exact ⟨by rw [List.length_reverse]; exact hz, _, r.reverse, _, Heap.get?_push_size _ rfl, rfl, 0, rfl⟩
end
end G
set_option Elab.async false
set_option maxRecDepth 100000
set_option maxHeartbeats 4000000
/-! tuples of any values: put together, cut -/
namespace G
open PySem PySem.Spec PyProof.Rows L2
theorem keep_up {H H1 : Hp} {p : Addr} {o : HO} (s : Same H H1) (hp : H1 p = none) : Same H (upd H1 p o) := fun c u e => by
  rw [upd_ne (ne_of_none (s _ _ e) hp)]
  exact s _ _ e
section
variable {X : Cx}
def rCatG : R2 := fun x y H Q => ∃ (a b : Addr) (xs ys : List V), x = .ref a ∧ y = .ref b ∧ H a = some (.tup xs) ∧ H b = some (.tup ys) ∧ xs.length + ys.length ≤ 100000 ∧
  ∀ (r : Addr) (H' : Hp), Same H H' → H' r = some (.tup (xs ++ ys)) → (r = a ∨ r = b ∨ H r = none) → Q (.ref r) H'
theorem op_catG : OpR X (binaryOp .Add) rCatG := fun pins s σ H x y v u Q I rx ry h => op_catA pins s σ H x y v u Q I rx ry (by
  obtain ⟨a, b, xs, ys, rfl, rfl, ha, hb, hl, k⟩ := h
  refine ⟨a, b, xs, ys, rfl, rfl, SqT.of ha, SqT.of hb, by rw [sizeLine_eq]; omega, fun e => ?_, fun _ e => ?_, fun _ _ p hp => ?_⟩
  · subst e
    exact k b H (Same.refl H) hb (.inr (.inl rfl))
  · subst e
    exact k a H (Same.refl H) (by rw [List.append_nil]; exact ha) (.inl rfl)
  · exact k p _ (keep_up (Same.refl H) hp) upd_same (.inr (.inr hp)))
def rSlG : V → Option Int → Option Int → Hp → VK → Prop := fun x lo hi H Q => ∃ (a : Addr) (xs : List V), x = .ref a ∧ H a = some (.tup xs) ∧
  ∀ (r : Addr) (H' : Hp), Same H H' → H' r = some (.tup (cutV xs lo hi)) → (r = a ∨ H r = none) → Q (.ref r) H'
theorem sl_G : SlR X rSlG := fun pins s σ H x v vl vu lo hi sl Q I rx hs pl pu h => sl_tupA pins s σ H x v vl vu lo hi sl Q I rx hs pl pu (by
  obtain ⟨a, xs, rfl, ha, q⟩ := h
  refine ⟨a, xs, rfl, SqT.of ha, fun ⟨e1, e2⟩ => ?_, fun _ p hp => ?_⟩
  · refine q a H (Same.refl H) ?_ (.inl rfl)
    have e : cutV xs lo hi = xs := by
      unfold cutV
      rw [e1, e2, List.drop_zero, Nat.sub_zero, List.take_length]
    rw [e]
    exact ha
  · exact q p _ (keep_up (Same.refl H) hp) upd_same (.inr hp))
end
theorem cut_take (xs : List V) (k : Nat) : cutV xs none (some (k : Int)) = xs.take k := by
  unfold cutV
  rw [HT.sIx_none, HT.sIx_nat, List.drop_zero, Nat.sub_zero]
  by_cases h : k ≤ xs.length
  · rw [show min k xs.length = k by omega]
  · rw [show min k xs.length = xs.length by omega, List.take_length, List.take_of_length_le (by omega)]
theorem cut_drop (xs : List V) (k : Nat) : cutV xs (some (k : Int)) none = xs.drop k := by
  unfold cutV
  rw [HT.sIx_none, HT.sIx_nat]
  by_cases h : k ≤ xs.length
  · rw [show min k xs.length = k by omega, List.take_of_length_le (by rw [List.length_drop]; exact Nat.le_refl _)]
  · rw [show min k xs.length = xs.length by omega, List.drop_of_length_le (Nat.le_refl _), List.drop_of_length_le (by omega), List.take_nil]
theorem cut_last (xs : List V) : cutV xs (some (-1)) none = xs.drop (xs.length - 1) := by
  unfold cutV
  rw [HT.sIx_none]
  have e : HT.sIx xs.length 0 (some (-1)) = xs.length - 1 := by
    unfold HT.sIx
    show (if (-1 : Int) < 0 then ((-1 : Int) + (xs.length : Int)).toNat else min (-1 : Int).toNat xs.length) = _
    rw [if_pos (by decide)]
    omega
  rw [e, List.take_of_length_le (by rw [List.length_drop]; exact Nat.le_refl _)]
section
variable {N : Addr → Prop} {H : Hp}
theorem DvAll.split {vs : List V} {ds : List PyData} (h : DvAll N H vs ds) (k : Nat) : DvAll N H (vs.take k) (ds.take k) ∧ DvAll N H (vs.drop k) (ds.drop k) := by
  have key : ∀ (ds : List PyData) (vs : List V) (k : Nat), DvAll N H vs ds → DvAll N H (vs.take k) (ds.take k) ∧ DvAll N H (vs.drop k) (ds.drop k) := by
    intro ds
    induction ds with
    | nil =>
      intro vs k h
      cases h
      rw [List.take_nil, List.take_nil, List.drop_nil, List.drop_nil]
      exact ⟨.nil, .nil⟩
    | cons d ds ih =>
      intro vs k h
      cases h with
      | cons a b =>
        cases k with
        | zero => exact ⟨.nil, .cons a b⟩
        | succ k => exact ⟨.cons a (ih _ k b).1, (ih _ k b).2⟩
  exact key ds vs k h
theorem DvAll.rev {vs : List V} {ds : List PyData} (h : DvAll N H vs ds) : DvAll N H vs.reverse ds.reverse := by
  have key : ∀ (ds : List PyData) (vs : List V), DvAll N H vs ds → DvAll N H vs.reverse ds.reverse := by
    intro ds
    induction ds with
    | nil =>
      intro vs h
      cases h
      exact .nil
    | cons d ds ih =>
      intro vs h
      cases h with
      | cons a b =>
        rw [List.reverse_cons, List.reverse_cons]
        exact (ih _ b).app (.cons a .nil)
  exact key ds vs h
end
theorem lt_of_log {i : Int} {k : Nat} (h : i.natAbs.log2 < k) : i.natAbs < 2 ^ k := lt_two_pow_of_log2_lt h
theorem log_of_lt {n k : Nat} (hk : 0 < k) (h : n < 2 ^ k) : n.log2 < k := by
  by_cases z : n = 0
  · rw [z]
    exact hk
  · exact (Nat.log2_lt z).mpr h
/-- what the law makes of an int -/
theorem int_ops {i : Int} {m : Nat} (h : i.natAbs.log2 < m) : (i + 1).natAbs.log2 < m + 20 ∧ (i - 1).natAbs.log2 < m + 20 ∧ ((0 : Int) - i).natAbs.log2 < m + 20 ∧ (i * 70000).natAbs.log2 < m + 20 := by
  have h1 := lt_of_log h
  have p : 2 ^ (m + 20) = 2 ^ m * 1048576 := by rw [Nat.pow_add]
  have q := Nat.two_pow_pos m
  refine ⟨log_of_lt (by omega) ?_, log_of_lt (by omega) ?_, log_of_lt (by omega) ?_, log_of_lt (by omega) ?_⟩
  · rw [p]
    omega
  · rw [p]
    omega
  · rw [p]
    omega
  · rw [p, Int.natAbs_mul]
    show i.natAbs * 70000 < _
    omega
theorem str_int {i : Int} {m n : Nat} (hm : 0 < m) (h : i.natAbs.log2 < m) : Wf m n (m + 1) (.str (Str.ofString (toString i))) := by
  refine ⟨?_, Nat.zero_le _, ?_⟩
  · show ((Str.ofString (toString i)).cps.toList.all fun c => decide (c < 1114112)) = true
    rw [Str.ofString_eq_toList, List.all_eq_true]
    intro c hc
    rw [List.toList_toArray] at hc
    obtain ⟨x, _, rfl⟩ := List.mem_map.mp hc
    have hv : x.toNat < 0xd800 ∨ (0xdfff < x.toNat ∧ x.toNat < 0x110000) := x.valid
    refine decide_eq_true ?_
    omega
  · show (Str.ofString (toString i)).length ≤ m + 1
    rw [PySem.ofString_length]
    exact int_text_length_le hm h
end G
set_option Elab.async false
set_option maxRecDepth 100000
set_option maxHeartbeats 8000000
set_option pp.maxSteps 600
namespace X1
open PySem L2
open G (Dv DvAll DvKv Wf WfA Keeps)
theorem seqTail {a c rest : TS} {D : _} {σ : St} {H : Hp} (P : St → Hp → Prop) (ht : ∀ σ' H', P σ' H' → rest D σ' H') (h : (∀ σ' H', P σ' H' → rest D σ' H') → tSeq a (tSeq c rest) D σ H) : tSeq a (tSeq c rest) D σ H := h ht
theorem seqTail1 {a rest : TS} {D : _} {σ : St} {H : Hp} (P : St → Hp → Prop) (ht : ∀ σ' H', P σ' H' → rest D σ' H') (h : (∀ σ' H', P σ' H' → rest D σ' H') → tSeq a rest D σ H) : tSeq a rest D σ H := h ht
section
variable {P : Program} {w : World} {K : PySem.W.Frag} {mg : Str → Option Value} {base : Heap}
/-! ### _law_bent -/
def spBent (n : Nat) : Sp := fun vs H Q _ => ∃ (N : Addr → Prop) (b : Addr) (k0 : Int) (o : HO) (v : V) (d : PyData) (M W : Nat), vs = [.ref b, v] ∧ H b = some o ∧ BoxO k0 o ∧ k0 + 2 * n ≤ 800000 ∧ Dv N H v d ∧ (∀ a, N a → a ≠ b) ∧ (∀ a, a ≠ b → H a = none → N a) ∧ Wf M n W d ∧ 100 ≤ M ∧ M ≤ 250 ∧ W ≤ 10000 ∧ n ≤ 60 ∧
  ∀ (v' : V) (d' : PyData) (H' : Hp) (o' : HO), Sam b H H' → H' b = some o' → BoxO (k0 + 70 + 2 * n) o' → Dv N H' v' d' → Wf (M + 20) (n + 21) (2 * W + 300) d' → Q v' H'
theorem scBent : FnScope ["_law_box_here", "_law_thing", "_law_at", "_law_odd"] ["_law_box_here", "_law_thing"] (defScope sBent) := ⟨rfl, rfl, rfl, by decide +kernel, rfl, by decide +kernel, by decide +kernel⟩
/-- one more level, the one below given -/
theorem bent_step {f f1 f2 f3 : Addr} {fd fd1 fd2 fd3 : FuncData} (A0 : At K mg "_law_bent" sBent ["_law_box_here", "_law_thing"] f fd) (A1 : At K mg "_law_take" sTake ["_law_box_here", "_law_many"] f1 fd1) (A2 : At K mg "_law_of" sOf ["_law_box_here", "_law_some"] f2 fd2)
    (AA : At K mg "_law_any" sAny ["_law_box_here"] f3 fd3) (T : Txt K mg) (n : Nat) (sp0 : Sp) (IH : FnOk P w K mg base CX0 (4 + n) f fd ["_law_box_here", "_law_thing"] sp0) (hI : ∀ k, n = k + 1 → sp0 = spBent k) :
    FnOk P w K mg base CX0 (5 + n) f fd ["_law_box_here", "_law_thing"] (spBent n) := by
  have G1 : FnOk P w K mg base CX0 1 f1 fd1 ["_law_box_here", "_law_many"] spTake := ok_take A1
  have G2 : FnOk P w K mg base CX0 2 f2 fd2 ["_law_box_here", "_law_some"] spOf := ok_of A2 A1 T
  have GA : FnOk P w K mg base CX0 3 f3 fd3 ["_law_box_here"] (spAny 18) := ok_any AA A1 A2 T
  rw [show 5 + n = (4 + n) + 1 by omega]
  refine A0.fn.ok scBent (fun vs H Q E h => ?_) (fun cdv A outer s H vs Q E hr h => ?_)
  · obtain ⟨N, b, k0, o, v, d, M, W, rfl, _⟩ := h
    rfl
  · obtain ⟨N, b, k0, o, v, d, M, W, rfl, hb, B, hk0, hd, nb, nn, wd, m1, m2, w2, n2, k⟩ := h
    have hr1 : Room 1 _ := hr.mono (by omega)
    have hr2 : Room 2 _ := hr.mono (by omega)
    have hr3 : Room 3 _ := hr.mono (by omega)
    refine ⟨_, (pss_cons (ps_if (PW.pt (pw_and (pt_val (pe_callB call_isi (by rfl) T.isinstance (by decide +kernel) (pa_cons (pv 1) (pa_cons (pe_bltn (v := .ty "tuple") (by rfl) T.tuple (by decide +kernel) rfl) pa_nil)))) (pw_and (pt_cmpR (G.op_neT0 hr.units) (pv 1) (pe_tup pa_nil) (nomark _)) (pw_and1 (pt_cmpR op_gt (pe_call G1 hr1 (by rfl) A1.mg A1.fn.kp A1.bi .nil pass0 (pa_cons (pv 0) (pa_cons pe_int pa_nil))) pe_int (nomark _)))))) (pss_cons (ps_set (i := 2) scBent.nd rfl (Or.inl rfl) (pe_call G1 hr1 (by rfl) A1.mg A1.fn.kp A1.bi .nil pass0 (pa_cons (pv 0) (pa_cons (pe_callB call_len_seq (by rfl) T.len PySem.boot_len (pa_cons (pv 1) pa_nil)) pa_nil))))
      (pss_one (ps_ret (pe_op G.op_catG (pe_op G.op_catG (pe_slice G.sl_G (pv 1) po_none (po_some (pv 2))) (pe_tup (pa_cons (pe_call IH hr (by rfl) A0.mg A0.fn.kp A0.bi .nil pass0 (pa_cons (pv 0) (pa_cons (pe_ix ix_tup (pv 1) (pv 2) (fun _ _ => rfl)) pa_nil))) pa_nil))) (pe_slice G.sl_G (pv 1) (po_some (pe_op op_add (pv 2) pe_int)) po_none))))) pss_nil)
      (pss_cons (ps_set (i := 3) scBent.nd rfl (Or.inl rfl) (pe_call GA hr3 (by rfl) AA.mg AA.fn.kp AA.bi .nil pass0 (pa_cons (pv 0) pa_nil)))
      (pss_cons (ps_if (pt_val (pe_callB call_isi (by rfl) T.isinstance (by decide +kernel) (pa_cons (pv 1) (pa_cons (pe_bltn (v := .ty "tuple") (by rfl) T.tuple (by decide +kernel) rfl) pa_nil)))) (pss_one (ps_ret (pe_call G2 hr2 (by rfl) A2.mg A2.fn.kp A2.bi .nil pass0 (pa_cons (pv 0) (pa_cons (pe_lst (pa_cons (pe_callTy G.call_listS (by rfl) T.list (by decide +kernel) (pa_cons (pv 1) pa_nil)) (pa_cons (pe_op G.op_catG (pv 1) (pe_slice G.sl_G (pv 1) (po_some (pe_un un_neg pe_int)) po_none)) (pa_cons (G.pe_revT (pv 1)) (pa_cons (pe_slice G.sl_G (pv 1) (po_some pe_int) po_none) (pa_cons (pe_tup (pa_cons (pv 1) pa_nil)) (pa_cons (pe_op G.op_catG (pv 1) (pe_tup (pa_cons pe_int pa_nil))) (pa_cons (pv 3) pa_nil)))))))) pa_nil))))) pss_nil)
      (pss_cons (ps_if (PW.pt (pw_and (pt_val (pe_callB call_isi (by rfl) T.isinstance (by decide +kernel) (pa_cons (pv 1) (pa_cons (pe_bltn (v := .ty "int") (by rfl) T.int (by decide +kernel) rfl) pa_nil)))) (pw_and1 (pt_not (pt_val (pe_callB call_isi (by rfl) T.isinstance (by decide +kernel) (pa_cons (pv 1) (pa_cons (pe_bltn (v := .ty "bool") (by rfl) T.bool (by decide +kernel) rfl) pa_nil)))))))) (pss_one (ps_ret (pe_call G2 hr2 (by rfl) A2.mg A2.fn.kp A2.bi .nil pass0 (pa_cons (pv 0) (pa_cons (pe_lst (pa_cons (pe_op op_add (pv 1) pe_int) (pa_cons (pe_op op_sub (pv 1) pe_int) (pa_cons (pe_op op_sub pe_int (pv 1)) (pa_cons (pe_op op_mul (pv 1) pe_int) (pa_cons (pe_callTy call_str_int (by rfl) T.str (by decide +kernel) (pa_cons (pv 1) pa_nil)) (pa_cons (pe_tup (pa_cons (pv 1) pa_nil)) (pa_cons (pe_cmpR op_eq (pv 1) pe_int (nomark _)) (pa_cons (pv 3) pa_nil))))))))) pa_nil))))) pss_nil)
      (pss_one (ps_ret (pv 3))))))), ?_⟩
    have nN : ∀ {Hk : Hp} {a : Addr} {ok : HO}, Sam b H Hk → Hk b = some ok → Hk a = none → N a := fun S hbk e => by
      obtain ⟨x1, x2⟩ := fresh_sam S (Same.refl _) hbk e
      exact nn _ x1 x2
    have toSam : ∀ {X Y : Hp}, Same X Y → Sam b X Y := fun h c u _ e => h c u e
    have big : ∀ {x : Int}, x ≤ 70000 → x < 2 ^ 1000 := fun h => Int.lt_of_le_of_lt h (by decide +kernel)
    refine seqTail1 (fun σ' H' => ∃ (o1 : HO) (t2 t3 : Option V), σ' = [some (.ref b), some v, t2, t3] ∧ Sam b H H' ∧ H' b = some o1 ∧ BoxO (k0 + 1) o1) ?tl1 fun tail => ?mn1
    case mn1 =>
      obtain ⟨t1, ty1, e1⟩ := isi_tup (K := K) hd
      refine ⟨_, rfl, _, _, _, _, _, rfl, .ty _, ty1, e1, _, rfl, ?_⟩
      cases hd with
      | tup np hp ha =>
        rename_i p xs ds
        obtain ⟨kk, rfl⟩ := wd.tup_pos
        have e := hI kk rfl
        subst e
        have wa := wd.untup
        have hlen := ha.len
        have hds := wa.len
        refine iteTb rfl ?_
        refine ⟨_, rfl, Nat.zero_le _, fun e0 he0 => ?_⟩
        refine ⟨p, e0, xs, rfl, rfl, new_at hp he0, upd_same, _, rfl, ?_⟩
        have hp1 := new_at (u := .tup []) hp he0
        have hb1 := new_at (u := .tup []) hb he0
        have S1 : Sam b H (upd H e0 (.tup [])) := toSam (keep_new (Same.refl H) he0)
        generalize (upd H e0 (.tup [])) = H1 at hp1 hb1 S1 ⊢
        cases hx : xs with
        | nil =>
          refine iteFb rfl (iteF ?_)
          exact tail _ _ ⟨o, _, _, rfl, S1, hb1, B.mono (by omega)⟩
        | cons x0 xs0 =>
          rw [← hx]
          have hpos : 0 < xs.length := by rw [hx]; exact Nat.succ_pos _
          refine iteTb (by rw [hx]; rfl) ?_
          refine ⟨_, rfl, b, _, 4, o, rfl, hb1, B, by omega, by decide, big (by decide), fun c o1 c0 c1 B1 => ?_⟩
          refine ⟨_, _, rfl, rfl, _, rfl, ?_⟩
          have npb : p ≠ b := nb p np
          by_cases hc : 0 < c
          case neg => exact iteFb (decide_eq_false hc) (tail _ _ ⟨o1, _, _, rfl, S1.trans Sam.upd, upd_same, B1⟩)
          refine iteTb (decide_eq_true hc) ?_
          have hp2 : (upd H1 b o1) p = some (.tup xs) := (upd_ne npb).trans hp1
          refine ⟨_, rfl, _, rfl, p, _, rfl, .inr (SqT.of hp2), b, _, _, o1, rfl, upd_same, B1, by omega, by omega, big (by omega), fun a o2 a0 a1 B2 => ?_⟩
          obtain ⟨an, rfl⟩ : ∃ an : Nat, a = (an : Int) := ⟨a.toNat, by omega⟩
          have han : an < xs.length := by omega
          have hp3 : (upd (upd H1 b o1) b o2) p = some (.tup xs) := (upd_ne npb).trans hp2
          have hb3 : (upd (upd H1 b o1) b o2) b = some o2 := upd_same
          have S3 : Sam b H (upd (upd H1 b o1) b o2) := (S1.trans Sam.upd).trans Sam.upd
          generalize (upd (upd H1 b o1) b o2) = H3 at hp3 hb3 S3 ⊢
          clear hp2 hp1 hb1 S1
          refine ⟨_, rfl, _, rfl, _, rfl, p, xs, rfl, hp3, fun r1 H4 s4 hr1 c1 => ?_⟩
          rw [G.cut_take] at hr1
          have S4 := S3.trans (toSam s4)
          have hb4 := s4 _ _ hb3
          have hp4 := s4 _ _ hp3
          have nr1 : N r1 := c1.elim (fun e => e ▸ np) fun e => nN S3 hb3 e
          have ha4 : DvAll N H4 xs ds := ha.keep fun c u n _ e => S4 c u (nb c n) e
          have ey : xs[an]? = some xs[an] := List.getElem?_eq_getElem han
          obtain ⟨dy, edy, hdy⟩ := ha4.at ey
          obtain ⟨w1, w3, w2', wu, wy, wv, wsum⟩ := wa.at edy
          refine ⟨_, rfl, _, rfl, _, rfl, p, xs, _, _, rfl, rfl, SqT.of hp4, atI_nat ey, ?_⟩
          refine ⟨N, b, _, o2, _, dy, M, w2', rfl, hb4, B2, by omega, hdy, nb, fun a h1 h2 => nN S4 hb4 h2, wy, m1, m2, by omega, by omega, fun y' dy' H5 o5 s5 hb5 B5 hdy' wy' => ?_⟩
          have S5 := S4.trans s5
          have hp5 := s5 _ _ npb hp4
          have hr5 := s5 _ _ (nb r1 nr1) hr1
          refine ⟨by show 1 ≤ sizeLine; decide, fun t ht => ?_⟩
          have nt : N t := nN S5 hb5 ht
          have s6 : Same H5 (upd H5 t (.tup [y'])) := keep_new (Same.refl _) ht
          have ht6 : (upd H5 t (.tup [y'])) t = some (.tup [y']) := upd_same
          generalize (upd H5 t (.tup [y'])) = H6 at s6 ht6 ⊢
          have S6 := S5.trans (toSam s6)
          refine ⟨r1, t, xs.take an, [y'], rfl, rfl, s6 _ _ hr5, ht6, by rw [List.length_take]; show min an xs.length + 1 ≤ 100000; omega, fun r2 H7 s7 hr2 c2 => ?_⟩
          have S7 := S6.trans (toSam s7)
          have nr2 : N r2 := by
            rcases c2 with e | e | e
            · exact e ▸ nr1
            · exact e ▸ nt
            · exact nN S6 (s6 _ _ hb5) e
          refine ⟨_, rfl, _, rfl, _, _, rfl, rfl, _, rfl, p, xs, rfl, s7 _ _ (s6 _ _ hp5), fun r3 H8 s8 hr3 c3 => ?_⟩
          have hcut : cutV xs (some ((an : Int) + 1)) none = xs.drop (an + 1) := G.cut_drop xs (an + 1)
          rw [hcut] at hr3
          have S8 := S7.trans (toSam s8)
          have nr3 : N r3 := c3.elim (fun e => e ▸ np) fun e => nN S7 (s7 _ _ (s6 _ _ hb5)) e
          refine ⟨r2, r3, xs.take an ++ [y'], xs.drop (an + 1), rfl, rfl, s8 _ _ hr2, hr3, by rw [List.length_append, List.length_take, List.length_drop]; show min an xs.length + 1 + _ ≤ 100000; omega, fun r4 H9 s9 hr4 c4 => ?_⟩
          have S9 := S8.trans (toSam s9)
          have hb8 := s8 _ _ (s7 _ _ (s6 _ _ hb5))
          have nr4 : N r4 := by
            rcases c4 with e | e | e
            · exact e ▸ nr2
            · exact e ▸ nr3
            · exact nN S8 hb8 e
          have ha9 : DvAll N H9 xs ds := ha.keep fun c u n _ e => S9 c u (nb c n) e
          have hdy9 : Dv N H9 y' dy' := hdy'.same (((s6.trans s7).trans s8).trans s9)
          refine k _ (.tuple (ds.take an ++ [dy'] ++ ds.drop (an + 1))) H9 o5 S9 (s9 _ _ hb8) (B5.mono (by omega)) (.tup nr4 hr4 (((ha9.split an).1.app (.cons hdy9 .nil)).app (ha9.split (an + 1)).2)) ?_
          have q1 : WfA (M + 20) (kk + 21) w1 (ds.take an) := wu.mono (by omega) (by omega) (Nat.le_refl _)
          have q2 : WfA (M + 20) (kk + 21) (2 * w2' + 300 + 1 + 0) [dy'] := G.WfA.cons wy' G.WfA.nil
          have q3 : WfA (M + 20) (kk + 21) w3 (ds.drop (an + 1)) := wv.mono (by omega) (by omega) (Nat.le_refl _)
          exact (G.Wf.tup ((q1.app q2).app q3)).mono (Nat.le_refl _) (by omega) (by omega)
      | int i => exact iteFb rfl (iteF (tail _ _ ⟨o, _, _, rfl, Sam.refl b H, hb, B.mono (by omega)⟩))
      | bl x => exact iteFb rfl (iteF (tail _ _ ⟨o, _, _, rfl, Sam.refl b H, hb, B.mono (by omega)⟩))
      | non => exact iteFb rfl (iteF (tail _ _ ⟨o, _, _, rfl, Sam.refl b H, hb, B.mono (by omega)⟩))
      | str x => exact iteFb rfl (iteF (tail _ _ ⟨o, _, _, rfl, Sam.refl b H, hb, B.mono (by omega)⟩))
      | lst _ _ _ _ => exact iteFb rfl (iteF (tail _ _ ⟨o, _, _, rfl, Sam.refl b H, hb, B.mono (by omega)⟩))
      | dic _ _ _ => exact iteFb rfl (iteF (tail _ _ ⟨o, _, _, rfl, Sam.refl b H, hb, B.mono (by omega)⟩))
    case tl1 =>
      rintro σ' H1 ⟨o1, t2, t3, rfl, S1, hb1, B1⟩
      refine ⟨_, rfl, b, _, o1, rfl, hb1, B1, by omega, fun vo do' H2 o2 s2 hb2 B2 hdo wdo => ?_⟩
      have S2 := S1.trans s2
      have hdo2 : Dv N H2 vo do' := hdo.to fun c u e n => nn c n.1 (fresh_sam S1 (Same.refl _) hb1 n.2).2
      have hd2 : Dv N H2 v d := hd.keep fun c u n _ e => S2 c u (nb c n) e
      have fin : Q vo H2 := k vo do' H2 o2 S2 hb2 (B2.mono (by omega)) hdo2 (wdo.mono (by omega) (by omega) (by omega))
      obtain ⟨t1, ty1, e1⟩ := isi_tup (K := K) hd2
      refine ⟨_, rfl, _, _, _, _, _, rfl, .ty _, ty1, e1, _, rfl, ?_⟩
      cases hd2 with
      | tup np hp ha =>
        rename_i p xs ds
        refine iteTb rfl ?_
        have np' := np
        have wa : WfA M (n - 1) W ds := ⟨wd.sm, by have : PyData.depthAll ds + 1 ≤ n := wd.dp; omega, wd.wt⟩
        have n1 : 1 ≤ n := by have : PyData.depthAll ds + 1 ≤ n := wd.dp; omega
        have hlen := ha.len
        have hds := wa.len
        refine ⟨_, rfl, ?_⟩
        refine ⟨_, rfl, p, xs, rfl, SqT.of hp, fun l1 h1 y1 => ?_⟩
        have R3 : Same H2 (upd H2 l1 (.lst xs)) := keep_new (Same.refl _) h1
        have nl1 : N l1 := nN S2 hb2 h1
        have D1 : Dv N (upd H2 l1 (.lst xs)) (.ref l1) (.list ds) := .lst nl1 y1 upd_same (ha.same R3)
        generalize (upd H2 l1 (.lst xs)) = H3 at R3 D1 ⊢
        refine ⟨_, rfl, _, rfl, _, rfl, _, rfl, p, xs, rfl, R3 _ _ hp, fun r1 H4 s4 hr1 c1 => ?_⟩
        have hc1 : cutV xs (some (-1)) none = xs.drop (xs.length - 1) := G.cut_last xs
        rw [hc1] at hr1
        have R4 := R3.trans s4
        have nr1 : N r1 := c1.elim (fun e => e ▸ np) fun e => nN (S2.trans (toSam R3)) (R3 _ _ hb2) e
        refine ⟨p, r1, xs, xs.drop (xs.length - 1), rfl, rfl, R4 _ _ hp, hr1, by rw [List.length_drop]; omega, fun r2 H5 s5 hr2 c2 => ?_⟩
        have R5 := R4.trans s5
        have nr2 : N r2 := by
          rcases c2 with e | e | e
          · exact e ▸ np
          · exact e ▸ nr1
          · exact nN (S2.trans (toSam R4)) (R4 _ _ hb2) e
        have ha5 := ha.same R5
        have D2 : Dv N H5 (.ref r2) (.tuple (ds ++ ds.drop (xs.length - 1))) := .tup nr2 hr2 (ha5.app (ha5.split _).2)
        refine ⟨_, rfl, p, xs, rfl, SqT.of (R5 _ _ hp), fun r3 h3 => ?_⟩
        have s6 : Same H5 (upd H5 r3 (.tup xs.reverse)) := keep_new (Same.refl _) h3
        have nr3 : N r3 := nN (S2.trans (toSam R5)) (R5 _ _ hb2) h3
        have D3 : Dv N (upd H5 r3 (.tup xs.reverse)) (.ref r3) (.tuple ds.reverse) := .tup nr3 upd_same (DvAll.rev (ha5.same s6))
        generalize (upd H5 r3 (.tup xs.reverse)) = H6 at s6 D3 ⊢
        have R6 := R5.trans s6
        refine ⟨_, rfl, _, rfl, p, xs, rfl, R6 _ _ hp, fun r4 H7 s7 hr4 c4 => ?_⟩
        have hc4 : cutV xs (some 1) none = xs.drop 1 := G.cut_drop xs 1
        rw [hc4] at hr4
        have R7 := R6.trans s7
        have nr4 : N r4 := c4.elim (fun e => e ▸ np) fun e => nN (S2.trans (toSam R6)) (R6 _ _ hb2) e
        have D4 : Dv N H7 (.ref r4) (.tuple (ds.drop 1)) := .tup nr4 hr4 ((ha.same R7).split _).2
        refine ⟨_, rfl, by show 1 ≤ sizeLine; decide, fun t5 h5 => ?_⟩
        have s8 : Same H7 (upd H7 t5 (.tup [V.ref p])) := keep_new (Same.refl _) h5
        have nt5 : N t5 := nN (S2.trans (toSam R7)) (R7 _ _ hb2) h5
        have D5 : Dv N (upd H7 t5 (.tup [V.ref p])) (.ref t5) (.tuple [.tuple ds]) := .tup nt5 upd_same (.cons (.tup np ((R7.trans s8) _ _ hp) (ha.same (R7.trans s8))) .nil)
        generalize (upd H7 t5 (.tup [V.ref p])) = H8 at s8 D5 ⊢
        have R8 := R7.trans s8
        refine ⟨_, rfl, by show 1 ≤ sizeLine; decide, fun t6 h6 => ?_⟩
        have s9 : Same H8 (upd H8 t6 (.tup [V.int 1])) := keep_new (Same.refl _) h6
        have nt6 : N t6 := nN (S2.trans (toSam R8)) (R8 _ _ hb2) h6
        have ht6 : (upd H8 t6 (.tup [V.int 1])) t6 = some (.tup [V.int 1]) := upd_same
        generalize (upd H8 t6 (.tup [V.int 1])) = H9 at s9 ht6 ⊢
        have R9 := R8.trans s9
        refine ⟨p, t6, xs, [V.int 1], rfl, rfl, R9 _ _ hp, ht6, by show xs.length + 1 ≤ 100000; omega, fun r6 H10 s10 hr6 c6 => ?_⟩
        have R10 := R9.trans s10
        have nr6 : N r6 := by
          rcases c6 with e | e | e
          · exact e ▸ np
          · exact e ▸ nt6
          · exact nN (S2.trans (toSam R9)) (R9 _ _ hb2) e
        have D6 : Dv N H10 (.ref r6) (.tuple (ds ++ [.int 1])) := .tup nr6 hr6 ((ha.same R10).app (.cons (.int 1) .nil))
        refine ⟨_, rfl, by show 7 ≤ sizeLine; decide, fun l7 hl7 => ?_⟩
        have n7 : l7 ≠ b := (ne_of_none (R10 _ _ hb2) hl7).symm
        have A7 : DvAll N H10 [V.ref l1, V.ref r2, V.ref r3, V.ref r4, V.ref t5, V.ref r6, vo] [.list ds, .tuple (ds ++ ds.drop (xs.length - 1)), .tuple ds.reverse, .tuple (ds.drop 1), .tuple [.tuple ds], .tuple (ds ++ [.int 1]), do'] :=
          .cons (D1.same (((((((s4.trans s5).trans s6).trans s7).trans s8).trans s9).trans s10))) (.cons (D2.same (((((s6.trans s7).trans s8).trans s9).trans s10))) (.cons (D3.same ((((s7.trans s8).trans s9).trans s10))) (.cons (D4.same (((s8.trans s9).trans s10))) (.cons (D5.same ((s9.trans s10))) (.cons D6 (.cons (hdo2.same R10) .nil))))))
        have A8 := A7.same (keep_new (o := .lst [V.ref l1, V.ref r2, V.ref r3, V.ref r4, V.ref t5, V.ref r6, vo]) (Same.refl _) hl7)
        refine ⟨b, l7, _, o2, _, rfl, new_at (R10 _ _ hb2) hl7, B2, by omega, upd_same, n7, by show 0 < 7; decide, by show 7 ≤ 1000; decide, fun j v1 o3 hv B3 => ?_⟩
        obtain ⟨d1, ed, hd1⟩ := A8.at hv
        refine k v1 d1 _ o3 (((S2.trans (toSam R10)).new hl7).trans Sam.upd) upd_same (B3.mono (by omega)) (hd1.keep fun c u nc _ e => (upd_ne (nb c nc)).trans e) ?_
        have hm := List.mem_of_getElem? ed
        simp only [List.mem_cons, List.not_mem_nil, or_false] at hm
        obtain ⟨u1, u2, q1, q2, q3⟩ := wa.split (xs.length - 1)
        obtain ⟨z1, z2, q4, q5, q6⟩ := wa.split 1
        have i1 : Wf M (n - 1) 1 (.int 1) := (G.Wf.of (m := 100) (n := 0) (w := 1) (by decide +kernel)).mono (by omega) (by omega) (Nat.le_refl _)
        rcases hm with rfl | rfl | rfl | rfl | rfl | rfl | rfl
        · exact (G.Wf.lst wa).mono (by omega) (by omega) (by omega)
        · exact (G.Wf.tup (wa.app q2)).mono (by omega) (by omega) (by omega)
        · exact (G.Wf.tup wa.rev).mono (by omega) (by omega) (by omega)
        · exact (G.Wf.tup q5).mono (by omega) (by omega) (by omega)
        · exact (G.Wf.tup (G.WfA.cons wd (G.WfA.nil : WfA M n 0 []))).mono (by omega) (by omega) (by omega)
        · exact (G.Wf.tup (wa.app (G.WfA.cons i1 (G.WfA.nil : WfA M (n - 1) 0 [])))).mono (by omega) (by omega) (by omega)
        · exact wdo.mono (by omega) (by omega) (by omega)
      | int i =>
        refine iteFb rfl ?_
        refine ⟨_, rfl, _, _, _, _, _, rfl, .ty _, .base (.int i), kit_ty (r := true) (by decide +kernel), _, rfl, iteT ?_⟩
        refine ⟨_, rfl, _, _, _, _, _, rfl, .ty _, .base (.int i), kit_ty (r := false) (by decide +kernel), _, rfl, iteT ?_⟩
        have wi : i.natAbs.log2 < M := of_decide_eq_true wd.sm
        obtain ⟨o1', o2', o3', o4'⟩ := G.int_ops wi
        refine ⟨_, rfl, ?_⟩
        refine ⟨_, rfl, _, _, rfl, rfl, _, rfl, _, _, rfl, rfl, _, rfl, _, _, rfl, rfl, _, rfl, _, _, rfl, rfl, .inr (by decide), _, rfl, i, rfl, by omega, _, rfl, by show 1 ≤ sizeLine; decide, fun t5 h5 => ?_⟩
        have s8 : Same H2 (upd H2 t5 (.tup [V.int i])) := keep_new (Same.refl _) h5
        have nt5 : N t5 := nN S2 hb2 h5
        have D5 : Dv N (upd H2 t5 (.tup [V.int i])) (.ref t5) (.tuple [.int i]) := .tup nt5 upd_same (.cons (.int i) .nil)
        generalize (upd H2 t5 (.tup [V.int i])) = H8 at s8 D5 ⊢
        refine ⟨_, rfl, rfl, _, rfl, by show 8 ≤ sizeLine; decide, fun l7 hl7 => ?_⟩
        have n7 : l7 ≠ b := (ne_of_none (s8 _ _ hb2) hl7).symm
        have A7 : DvAll N H8 [V.int (i + 1), V.int (i - 1), V.int (0 - i), V.int (i * 70000), V.str (Str.ofString (toString i)), V.ref t5, V.bl (decide (V.int i = V.int 1)), vo] [.int (i + 1), .int (i - 1), .int (0 - i), .int (i * 70000), .str (Str.ofString (toString i)), .tuple [.int i], .bool (decide (V.int i = V.int 1)), do'] :=
          .cons (.int _) (.cons (.int _) (.cons (.int _) (.cons (.int _) (.cons (.str _) (.cons D5 (.cons (.bl _) (.cons (hdo2.same s8) .nil)))))))
        have A8 := A7.same (keep_new (o := .lst [V.int (i + 1), V.int (i - 1), V.int (0 - i), V.int (i * 70000), V.str (Str.ofString (toString i)), V.ref t5, V.bl (decide (V.int i = V.int 1)), vo]) (Same.refl _) hl7)
        refine ⟨b, l7, _, o2, _, rfl, new_at (s8 _ _ hb2) hl7, B2, by omega, upd_same, n7, by show 0 < 8; decide, by show 8 ≤ 1000; decide, fun j v1 o3 hv B3 => ?_⟩
        obtain ⟨d1, ed, hd1⟩ := A8.at hv
        refine k v1 d1 _ o3 (((S2.trans (toSam s8)).new hl7).trans Sam.upd) upd_same (B3.mono (by omega)) (hd1.keep fun c u nc _ e => (upd_ne (nb c nc)).trans e) ?_
        have hm := List.mem_of_getElem? ed
        simp only [List.mem_cons, List.not_mem_nil, or_false] at hm
        have hw : M + 20 + 1 ≤ 2 * W + 300 := by omega
        rcases hm with rfl | rfl | rfl | rfl | rfl | rfl | rfl | rfl
        · exact (G.Wf.int o1').mono (Nat.le_refl _) (Nat.le_refl _) hw
        · exact (G.Wf.int o2').mono (Nat.le_refl _) (Nat.le_refl _) hw
        · exact (G.Wf.int o3').mono (Nat.le_refl _) (Nat.le_refl _) hw
        · exact (G.Wf.int o4').mono (Nat.le_refl _) (Nat.le_refl _) hw
        · exact (G.str_int (n := n + 21) (by omega) wi).mono (by omega) (Nat.le_refl _) (by omega)
        · exact (G.Wf.tup (G.WfA.cons wd (G.WfA.nil : WfA M n 0 []))).mono (by omega) (by omega) (by omega)
        · exact G.Wf.bl
        · exact wdo.mono (by omega) (by omega) (by omega)
      | bl x =>
        refine iteFb rfl ?_
        refine ⟨_, rfl, _, _, _, _, _, rfl, .ty _, .base (.bl x), kit_ty (r := true) (by decide +kernel), _, rfl, iteT ?_⟩
        refine ⟨_, rfl, _, _, _, _, _, rfl, .ty _, .base (.bl x), kit_ty (r := true) (by decide +kernel), _, rfl, iteF ?_⟩
        exact ⟨_, rfl, fin⟩
      | non =>
        refine iteFb rfl ?_
        refine ⟨_, rfl, _, _, _, _, _, rfl, .ty _, .base .non, kit_ty (r := false) (by decide +kernel), _, rfl, iteF (iteF ⟨_, rfl, fin⟩)⟩
      | str x =>
        refine iteFb rfl ?_
        refine ⟨_, rfl, _, _, _, _, _, rfl, .ty _, .base (.str x), kit_ty (r := false) (by decide +kernel), _, rfl, iteF (iteF ⟨_, rfl, fin⟩)⟩
      | lst _ _ e _ =>
        refine iteFb rfl ?_
        refine ⟨_, rfl, _, _, _, _, _, rfl, .ty _, .base (.lst e), kit_ty (r := false) (by decide +kernel), _, rfl, iteF (iteF ⟨_, rfl, fin⟩)⟩
      | dic _ e _ =>
        refine iteFb rfl ?_
        refine ⟨_, rfl, _, _, _, _, _, rfl, .ty _, .base (.dK e), kit_ty (r := false) (by decide +kernel), _, rfl, iteF (iteF ⟨_, rfl, fin⟩)⟩
end
end X1
set_option Elab.async false
set_option maxRecDepth 100000
set_option maxHeartbeats 4000000
set_option pp.maxSteps 600
namespace X1
open PySem L2
open G (Dv DvAll DvKv Wf WfA Keeps spInit ClsFn FunD KxC Kept Flies mkO_of)
section
variable {P : Program} {w : World} {K : PySem.W.Frag} {mg : Str → Option Value} {base : Heap}
theorem fn_false {f : Addr} {fd : FuncData} {ps : List Str} {k : Nat} : FnOk P w K mg base CX0 k f fd ps (fun _ _ _ _ => False) := ⟨fun _ _ _ _ h => h.elim, fun _ _ _ _ _ _ _ _ _ _ _ _ _ h => h.elim⟩
theorem ok_bent {f f1 f2 f3 : Addr} {fd fd1 fd2 fd3 : FuncData} (A0 : At K mg "_law_bent" sBent ["_law_box_here", "_law_thing"] f fd) (A1 : At K mg "_law_take" sTake ["_law_box_here", "_law_many"] f1 fd1) (A2 : At K mg "_law_of" sOf ["_law_box_here", "_law_some"] f2 fd2)
    (AA : At K mg "_law_any" sAny ["_law_box_here"] f3 fd3) (T : Txt K mg) : ∀ n, FnOk P w K mg base CX0 (5 + n) f fd ["_law_box_here", "_law_thing"] (spBent n)
  | 0 => bent_step A0 A1 A2 AA T 0 _ fn_false fun _ e => nomatch e
  | n + 1 => bent_step A0 A1 A2 AA T (n + 1) (spBent n) (by
      have h := ok_bent A0 A1 A2 AA T n
      rw [show 4 + (n + 1) = 5 + n by omega]
      exact h) fun k e => by
      cases e
      rfl
end
/-! ### InvalidWidth -/
abbrev sI0 : Stmt := inClass (top 1) 0
abbrev sI2 : Stmt := inClass (top 2) 0
abbrev sI3 : Stmt := inClass (top 3) 0
abbrev sI5 : Stmt := inClass (top 4) 0
structure Exc (K : PySem.W.Frag) (mg : Str → Option Value) (CB CW CM CA f0 f2 f3 f5 : Addr) (fd0 fd2 fd3 fd5 : FuncData) : Prop where
  gB : mg "BankError" = some (.ref CB)
  F0 : FunD K "__init__" "BankError.__init__" sI0 f0 fd0
  b0 : Binds K fd0 ["self", "value"] []
  cB : ClsFn K CB f0 "__init__"
  gW : mg "InvalidWidth" = some (.ref CW)
  oW : OexC K CW
  noW : PySem.W.findIn K (.ref CW) "value" = some none
  iW : PySem.W.findIn K (.ref CW) "__init__" = some (some (.ref f2))
  tW : PySem.W.typeIn K (.ref f2) = some (.type "function")
  F2 : FunD K "__init__" "InvalidWidth.__init__" sI2 f2 fd2
  b2 : Binds K fd2 ["self", "value"] []
  kW : KxC K CW
  eW : PySem.W.exmOne K (.ref CW) (.ref CB) = some true
  gM : mg "InvalidMap" = some (.ref CM)
  oM : OexC K CM
  noM : PySem.W.findIn K (.ref CM) "value" = some none
  iM : PySem.W.findIn K (.ref CM) "__init__" = some (some (.ref f3))
  tM : PySem.W.typeIn K (.ref f3) = some (.type "function")
  F3 : FunD K "__init__" "InvalidMap.__init__" sI3 f3 fd3
  b3 : Binds K fd3 ["self", "value"] []
  kM : KxC K CM
  eM : PySem.W.exmOne K (.ref CM) (.ref CB) = some true
  gA : mg "InvalidAddress" = some (.ref CA)
  oA : OexC K CA
  noA : PySem.W.findIn K (.ref CA) "value" = some none
  iA : PySem.W.findIn K (.ref CA) "__init__" = some (some (.ref f5))
  tA : PySem.W.typeIn K (.ref f5) = some (.type "function")
  F5 : FunD K "__init__" "InvalidAddress.__init__" sI5 f5 fd5
  b5 : Binds K fd5 ["self", "value"] []
  kA : KxC K CA
  eA : PySem.W.exmOne K (.ref CA) (.ref CB) = some true
  nMW : PySem.W.kitOne K (.ref CM) (.ref CW) = some false
  nAW : PySem.W.kitOne K (.ref CA) (.ref CW) = some false
  nAM : PySem.W.kitOne K (.ref CA) (.ref CM) = some false
section
variable {P : Program} {w : World} {K : PySem.W.Frag} {mg : Str → Option Value} {base : Heap}
theorem scI0 : FnScope ["self", "value"] ["self", "value"] (defScope sI0) := ⟨rfl, rfl, rfl, by decide +kernel, rfl, by decide +kernel, by decide +kernel⟩
theorem scI2 : FnScope ["self", "value"] ["self", "value"] (defScope sI2) := ⟨rfl, rfl, rfl, by decide +kernel, rfl, by decide +kernel, by decide +kernel⟩
theorem ok_init0 {CB CW CM CA f0 f2 f3 f5 : Addr} {fd0 fd2 fd3 fd5 : FuncData} (EX : Exc K mg CB CW CM CA f0 f2 f3 f5 fd0 fd2 fd3 fd5) : FnOk P w K mg base CX0 1 f0 fd0 ["self", "value"] (spInit K) := by
  refine EX.F0.ok scI0 (fun vs H Q E h => ?_) (fun cdv A outer s H vs Q E hr h => ?_)
  · obtain ⟨a, C, v, rfl, _⟩ := h
    rfl
  · obtain ⟨a, C, v, rfl, T, hno, ha, k⟩ := h
    refine ⟨_, pss_one (ps_ost (pv 0) (pv 1)), ?_⟩
    exact ⟨_, rfl, _, rfl, a, C, rfl, T, hno, .inl ⟨ha, k⟩⟩
theorem scI3 : FnScope ["self", "value"] ["self", "value"] (defScope sI3) := ⟨rfl, rfl, rfl, by decide +kernel, rfl, by decide +kernel, by decide +kernel⟩
theorem scI5 : FnScope ["self", "value"] ["self", "value"] (defScope sI5) := ⟨rfl, rfl, rfl, by decide +kernel, rfl, by decide +kernel, by decide +kernel⟩
theorem ok_init2 {CB CW CM CA f0 f2 f3 f5 : Addr} {fd0 fd2 fd3 fd5 : FuncData} (EX : Exc K mg CB CW CM CA f0 f2 f3 f5 fd0 fd2 fd3 fd5) : FnOk P w K mg base CX0 2 f2 fd2 ["self", "value"] (spInit K) := by
  have G0 : FnOk P w K mg base CX0 1 f0 fd0 ["self", "value"] (spInit K) := ok_init0 EX
  refine EX.F2.ok scI2 (fun vs H Q E h => ?_) (fun cdv A outer s H vs Q E hr h => ?_)
  · obtain ⟨a, C, v, rfl, _⟩ := h
    rfl
  · obtain ⟨a, C, v, rfl, T, hno, ha, k⟩ := h
    refine ⟨_, pss_one (ps_expr (G.pe_clsfn G0 hr EX.cB (by rfl) EX.gB EX.b0 .nil pass0 (pa_cons (pv 0) (pa_cons (pv 1) pa_nil)))), ?_⟩
    exact ⟨_, rfl, _, rfl, a, C, v, rfl, T, hno, ha, k⟩
theorem ok_init3 {CB CW CM CA f0 f2 f3 f5 : Addr} {fd0 fd2 fd3 fd5 : FuncData} (EX : Exc K mg CB CW CM CA f0 f2 f3 f5 fd0 fd2 fd3 fd5) : FnOk P w K mg base CX0 2 f3 fd3 ["self", "value"] (spInit K) := by
  have G0 : FnOk P w K mg base CX0 1 f0 fd0 ["self", "value"] (spInit K) := ok_init0 EX
  refine EX.F3.ok scI3 (fun vs H Q E h => ?_) (fun cdv A outer s H vs Q E hr h => ?_)
  · obtain ⟨a, C, v, rfl, _⟩ := h
    rfl
  · obtain ⟨a, C, v, rfl, T, hno, ha, k⟩ := h
    refine ⟨_, pss_one (ps_expr (G.pe_clsfn G0 hr EX.cB (by rfl) EX.gB EX.b0 .nil pass0 (pa_cons (pv 0) (pa_cons (pv 1) pa_nil)))), ?_⟩
    exact ⟨_, rfl, _, rfl, a, C, v, rfl, T, hno, ha, k⟩
theorem ok_init5 {CB CW CM CA f0 f2 f3 f5 : Addr} {fd0 fd2 fd3 fd5 : FuncData} (EX : Exc K mg CB CW CM CA f0 f2 f3 f5 fd0 fd2 fd3 fd5) : FnOk P w K mg base CX0 2 f5 fd5 ["self", "value"] (spInit K) := by
  have G0 : FnOk P w K mg base CX0 1 f0 fd0 ["self", "value"] (spInit K) := ok_init0 EX
  refine EX.F5.ok scI5 (fun vs H Q E h => ?_) (fun cdv A outer s H vs Q E hr h => ?_)
  · obtain ⟨a, C, v, rfl, _⟩ := h
    rfl
  · obtain ⟨a, C, v, rfl, T, hno, ha, k⟩ := h
    refine ⟨_, pss_one (ps_expr (G.pe_clsfn G0 hr EX.cB (by rfl) EX.gB EX.b0 .nil pass0 (pa_cons (pv 0) (pa_cons (pv 1) pa_nil)))), ?_⟩
    exact ⟨_, rfl, _, rfl, a, C, v, rfl, T, hno, ha, k⟩
/-! ### is_width, of any value -/
def spIsW : Sp := fun vs H Q _ => ∃ (N : Addr → Prop) (v : V) (d : PyData), vs = [v] ∧ Dv N H v d ∧ Q (.bl (widthD d)) H
theorem scIsW : FnScope ["value"] ["value"] (defScope sIsWidth) := ⟨rfl, rfl, rfl, by decide +kernel, rfl, by decide +kernel, by decide +kernel⟩
theorem ok_isW {f f1 : Addr} {fd fd1 : FuncData} (A0 : At K mg "is_width" sIsWidth ["value"] f fd) (A1 : At K mg "is_int" sIsInt ["value"] f1 fd1) (T : Txt K mg) : FnOk P w K mg base CX0 2 f fd ["value"] spIsW := by
  have G1 : FnOk P w K mg base CX0 1 f1 fd1 ["value"] spInt := ok_isInt A1 T
  obtain ⟨tw, hmw⟩ := T.mWidth
  refine A0.fn.ok scIsW (fun vs H Q E h => ?_) (fun cdv A outer s H vs Q E hr h => ?_)
  · obtain ⟨N, v, d, rfl, _⟩ := h
    rfl
  · obtain ⟨N, v, d, rfl, hd, k⟩ := h
    refine ⟨_, pss_one (ps_ret (pe_and (pe_call G1 hr (by rfl) A1.mg A1.fn.kp A1.bi .nil pass0 (pa_cons (pv 0) pa_nil)) (pe_one (pe_chain op_le op_le pe_int (pv 0) (pe_glob (v := .int 16) (by rfl) hmw ⟨_, rfl⟩))))), ?_⟩
    refine ⟨_, rfl, N, v, d, rfl, hd, _, rfl, ?_⟩
    cases hd with
    | int i =>
      refine iteT ?_
      refine ⟨_, rfl, _, _, rfl, rfl, _, rfl, ?_⟩
      by_cases h0 : 1 ≤ i
      · refine iteTb (decide_eq_true h0) ?_
        refine ⟨_, _, rfl, rfl, ?_⟩
        exact qv (by show V.bl (decide (i ≤ 16)) = V.bl (decide (1 ≤ i ∧ i ≤ 16)); simp [h0]) k
      · refine iteFb (decide_eq_false h0) ?_
        exact qv (by show V.bl false = V.bl (decide (1 ≤ i ∧ i ≤ 16)); simp [h0]) k
    | _ => exact iteF k
/-! ### check_width, of any value -/
def spCkW (CW : Addr) : Sp := fun vs H Q E => ∃ (N : Addr → Prop) (v : V) (d : PyData), vs = [v] ∧ Dv N H v d ∧ (widthD d = true → Q .non H) ∧ (widthD d = false → Flies CW v E H)
theorem scCkW : FnScope ["width"] ["width"] (defScope sCkWidth) := ⟨rfl, rfl, rfl, by decide +kernel, rfl, by decide +kernel, by decide +kernel⟩
theorem ok_ckW {f f1 CB CW CM CA e0 e2 e3 e5 : Addr} {fd fd1 fde0 fde2 fde3 fde5 : FuncData} (EX : Exc K mg CB CW CM CA e0 e2 e3 e5 fde0 fde2 fde3 fde5) (A0 : At K mg "check_width" sCkWidth ["width"] f fd) (A1 : At K mg "is_int" sIsInt ["value"] f1 fd1) (T : Txt K mg) : FnOk P w K mg base (L2.CX P w) 4 f fd ["width"] (spCkW CW) := by
  obtain ⟨fw, fdw, AW⟩ := T.isWidth
  have GW : FnOk P w K mg base CX0 2 fw fdw ["value"] spIsW := ok_isW AW A1 T
  have G5 : FnOk P w K mg base CX0 2 e2 fde2 ["self", "value"] (spInit K) := ok_init2 EX
  refine A0.fn.okX scCkW (fun vs H Q E h => ?_) (fun cdv A outer s H vs Q E hr h => ?_)
  · obtain ⟨N, v, d, rfl, _⟩ := h
    rfl
  · obtain ⟨N, v, d, rfl, hd, k, kx⟩ := h
    have hr2 : Room 2 _ := hr.mono (by decide)
    have hr3 : Room 3 _ := hr
    refine ⟨_, pss_one (ps_if (pt_not (pt_val (pe_call GW hr2 (by rfl) AW.mg AW.fn.kp AW.bi .nil pass0 (pa_cons (pv 0) pa_nil)))) (pss_one (ps_raise rfl (takes_of rfl rfl rfl rfl) (pmk_oex EX.oW EX.iW EX.tW G5 hr3 EX.b2 .nil pass0 (by rfl) EX.gW (pa_cons (pv 0) pa_nil)))) pss_nil), ?_⟩
    refine ⟨_, rfl, N, v, d, rfl, hd, _, rfl, ?_⟩
    cases e : widthD d with
    | true => exact iteF (k e)
    | false => exact iteT ⟨_, rfl, mkO_of EX.oW EX.noW (kx e)⟩
/-! ### check_map, of any value -/
def spCkM (CM : Addr) : Sp := fun vs H Q E => ∃ (wd : Nat) (N : Addr → Prop) (v : V) (d : PyData), vs = [.int (wd : Int), v] ∧ wd ≤ 1000 ∧ Dv N H v d ∧ (mapD wd d = true → ∀ H', Same H H' → Q .non H') ∧ (mapD wd d = false → ∀ H', Same H H' → Flies CM v E H')
theorem scCkM : FnScope ["width", "masks"] ["width", "masks"] (defScope sCkMap) := ⟨rfl, rfl, rfl, by decide +kernel, rfl, by decide +kernel, by decide +kernel⟩
theorem ok_ckM {f f1 f2 f3 f4 CB CW CM CA e0 e2 e3 e5 : Addr} {fd fd1 fd2 fd3 fd4 fde0 fde2 fde3 fde5 : FuncData} (EX : Exc K mg CB CW CM CA e0 e2 e3 e5 fde0 fde2 fde3 fde5) (A0 : At K mg "check_map" sCkMap ["width", "masks"] f fd) (A1 : At K mg "is_int" sIsInt ["value"] f1 fd1) (A2 : At K mg "is_address" sIsAddr ["width", "value"] f2 fd2)
    (A3 : At K mg "are_addresses" sAreAddrs ["width", "value", "most"] f3 fd3) (A4 : At K mg "are_masks" sAreMasks ["width", "value"] f4 fd4) (T : Txt K mg) : FnOk P w K mg base (L2.CX P w) 5 f fd ["width", "masks"] (spCkM CM) := by
  have G4 : FnOk P w K mg base CX0 4 f4 fd4 ["width", "value"] spMasks := ok_masks A4 A1 A2 A3 T
  have G5 : FnOk P w K mg base CX0 2 e3 fde3 ["self", "value"] (spInit K) := ok_init3 EX
  refine A0.fn.okX scCkM (fun vs H Q E h => ?_) (fun cdv A outer s H vs Q E hr h => ?_)
  · obtain ⟨wd, N, v, d, rfl, _⟩ := h
    rfl
  · obtain ⟨wd, N, v, d, rfl, hw, hd, k, kx⟩ := h
    have hr4 : Room 4 _ := hr
    have hr3 : Room 3 _ := hr.mono (by decide)
    refine ⟨_, pss_one (ps_if (pt_not (pt_val (pe_call G4 hr4 (by rfl) A4.mg A4.fn.kp A4.bi .nil pass0 (pa_cons (pv 0) (pa_cons (pv 1) pa_nil)))))
      (pss_one (ps_raise rfl (takes_of rfl rfl rfl rfl) (pmk_oex EX.oM EX.iM EX.tM G5 hr3 EX.b3 .nil pass0 (by rfl) EX.gM (pa_cons (pv 1) pa_nil)))) pss_nil), ?_⟩
    refine ⟨_, rfl, _, rfl, wd, N, v, d, rfl, hw, hd, fun H' s' => ⟨_, rfl, ?_⟩⟩
    cases e : mapD wd d with
    | true => exact iteF (k e H' s')
    | false => exact iteT ⟨_, rfl, mkO_of EX.oM EX.noM (kx e H' s')⟩
/-! ### check_address, of any value -/
def spCkA (CA : Addr) : Sp := fun vs H Q E => ∃ (wd : Nat) (N : Addr → Prop) (v : V) (d : PyData), vs = [.int (wd : Int), v] ∧ wd ≤ 1000 ∧ Dv N H v d ∧ (addrD wd d = true → Q .non H) ∧ (addrD wd d = false → Flies CA v E H)
theorem scCkA : FnScope ["width", "address"] ["width", "address"] (defScope sCkAddr) := ⟨rfl, rfl, rfl, by decide +kernel, rfl, by decide +kernel, by decide +kernel⟩
theorem ok_ckA {f f1 f2 CB CW CM CA e0 e2 e3 e5 : Addr} {fd fd1 fd2 fde0 fde2 fde3 fde5 : FuncData} (EX : Exc K mg CB CW CM CA e0 e2 e3 e5 fde0 fde2 fde3 fde5) (A0 : At K mg "check_address" sCkAddr ["width", "address"] f fd) (A1 : At K mg "is_int" sIsInt ["value"] f1 fd1) (A2 : At K mg "is_address" sIsAddr ["width", "value"] f2 fd2) (T : Txt K mg) : FnOk P w K mg base (L2.CX P w) 5 f fd ["width", "address"] (spCkA CA) := by
  have G4 : FnOk P w K mg base CX0 2 f2 fd2 ["width", "value"] spAddr := ok_isAddr A2 A1 T
  have G5 : FnOk P w K mg base CX0 2 e5 fde5 ["self", "value"] (spInit K) := ok_init5 EX
  refine A0.fn.okX scCkA (fun vs H Q E h => ?_) (fun cdv A outer s H vs Q E hr h => ?_)
  · obtain ⟨wd, N, v, d, rfl, _⟩ := h
    rfl
  · obtain ⟨wd, N, v, d, rfl, hw, hd, k, kx⟩ := h
    have hr2 : Room 2 _ := hr.mono (by decide)
    have hr3 : Room 3 _ := hr.mono (by decide)
    refine ⟨_, pss_one (ps_if (pt_not (pt_val (pe_call G4 hr2 (by rfl) A2.mg A2.fn.kp A2.bi .nil pass0 (pa_cons (pv 0) (pa_cons (pv 1) pa_nil)))))
      (pss_one (ps_raise rfl (takes_of rfl rfl rfl rfl) (pmk_oex EX.oA EX.iA EX.tA G5 hr3 EX.b5 .nil pass0 (by rfl) EX.gA (pa_cons (pv 1) pa_nil)))) pss_nil), ?_⟩
    refine ⟨_, rfl, _, rfl, wd, N, v, d, rfl, hw, hd, _, rfl, ?_⟩
    cases e : addrD wd d with
    | true => exact iteF (k e)
    | false => exact iteT ⟨_, rfl, mkO_of EX.oA EX.noA (kx e)⟩
end
end X1
set_option Elab.async false
set_option maxRecDepth 100000
set_option maxHeartbeats 8000000
set_option pp.maxSteps 600
namespace X1
open PySem L2
open G (Dv DvAll DvKv Wf WfA Keeps spInit ClsFn FunD KxC Kept Flies)
/-! ### two promises of one def -/
theorem both {P : Program} {w : World} {K : PySem.W.Frag} {mg : Str → Option Value} {base : Heap} {CX : CXT} {k : Nat} {f : Addr} {fd : FuncData} {ps : List Str} {sp sp' : Sp} (F : FnOk P w K mg base CX k f fd ps sp) (G : FnOk P w K mg base CX k f fd ps sp') :
    FnOk P w K mg base CX k f fd ps fun vs H Q E => sp vs H Q E ∨ sp' vs H Q E :=
  ⟨fun vs H Q E h => h.elim (F.len vs H Q E) (G.len vs H Q E), fun A outer s H args us vs Q E hr e0 hb r h => h.elim (F.run A outer s H args us vs Q E hr e0 hb r) (G.run A outer s H args us vs Q E hr e0 hb r)⟩
theorem up0 {P : Program} {w : World} {K : PySem.W.Frag} {mg : Str → Option Value} {base : Heap} {k : Nat} {f : Addr} {fd : FuncData} {ps : List Str} {sp : Sp} (F : FnOk P w K mg base CX0 k f fd ps sp) : FnOk P w K mg base (L2.CX P w) k f fd ps sp :=
  ⟨F.len, fun A outer s H args us vs Q E hr e0 hb r h => codeAny_mono (F.run A outer s H args us vs Q E hr e0 hb r h) fun r s' hq => by
    cases r with
    | ok fl => cases fl <;> exact hq
    | error e => exact False.elim hq⟩
/-- what is never reached -/
theorem pss_no {X : Cx} {ss : List Stmt} : PSs X ss fun _ _ _ => False := ⟨fun _ _ _ _ _ _ h => h.elim⟩
/-- a map's data, as numbers -/
theorem map_nv {N : Addr → Prop} {H : Hp} {wd : Nat} {v : V} {d : PyData} (h : Dv N H v d) (m : mapD wd d = true) : ∃ (p : Addr) (vv : List Nat), v = .ref p ∧ N p ∧ H p = some (.tup (V.nv vv)) ∧ d = .tuple (vv.map fun n : Nat => PyData.int (n : Int)) ∧ vv.length ≤ 16 ∧ ∀ x ∈ vv, x < 2 ^ wd := by
  cases h with
  | @tup p xs ds n hp ha =>
    have m' : (decide (ds.length ≤ 16) && ds.all (addrD wd)) = true := m
    rw [Bool.and_eq_true, decide_eq_true_iff] at m'
    have key : ∀ {ds : List PyData} {xs : List V}, DvAll N H xs ds → ds.all (addrD wd) = true → ∃ vv : List Nat, xs = V.nv vv ∧ ds = (vv.map fun n : Nat => PyData.int (n : Int)) ∧ ∀ x ∈ vv, x < 2 ^ wd := by
      intro ds
      induction ds with
      | nil =>
        intro xs h _
        cases h
        exact ⟨[], rfl, rfl, fun x hx => (nomatch hx)⟩
      | cons d ds ih =>
        intro xs h hm
        cases h with
        | cons a b =>
          rw [List.all_cons, Bool.and_eq_true] at hm
          obtain ⟨vv, rfl, rfl, h3⟩ := ih b hm.2
          cases a with
          | int i =>
            have hi : 0 ≤ i ∧ i < ((2 ^ wd : Nat) : Int) := of_decide_eq_true hm.1
            obtain ⟨n, rfl⟩ : ∃ n : Nat, i = (n : Int) := ⟨i.toNat, by omega⟩
            refine ⟨n :: vv, rfl, rfl, fun x hx => ?_⟩
            rcases List.mem_cons.mp hx with rfl | hx
            · exact Int.ofNat_lt.mp hi.2
            · exact h3 x hx
          | _ => cases hm.1
    obtain ⟨vv, rfl, e, h3⟩ := key ha m'.2
    exact ⟨p, vv, rfl, n, hp, by rw [e], by rw [e, List.length_map] at m'; exact m'.1, h3⟩
  | _ => cases m
/-! ### (width, masks), of any value -/
def spTwo (CW CM CD CN : Addr) : Sp := fun vs H Q E => ∃ (N M : Addr → Prop) (x v : V) (dx d : PyData), vs = [x, v] ∧ Dv N H x dx ∧ Dv M H v d ∧ (widthD dx = false → Flies CW x E H) ∧
  ∀ wd : Nat, dx = .int (wd : Int) → 1 ≤ wd → wd ≤ 16 → (mapD wd d = false → ∀ H', Same H H' → Flies CM v E H') ∧ (mapD wd d = true → ∀ H', Same H H' → (∀ u, Q u H') ∧ Flies CD .non E H' ∧ Flies CN .non E H')
def spRef (CW CM : Addr) : Sp := fun vs H _ E => ∃ (N M : Addr → Prop) (x v : V) (dx d : PyData), vs = [x, v] ∧ Dv N H x dx ∧ Dv M H v d ∧ (widthD dx = false → Flies CW x E H) ∧
  ∀ wd : Nat, dx = .int (wd : Int) → 1 ≤ wd → wd ≤ 16 → mapD wd d = false ∧ ∀ H', Same H H' → Flies CM v E H'
theorem width_cases {N : Addr → Prop} {H : Hp} {x : V} {dx : PyData} (hx : Dv N H x dx) (hw : widthD dx = true) : ∃ wd : Nat, x = .int (wd : Int) ∧ dx = .int (wd : Int) ∧ 1 ≤ wd ∧ wd ≤ 16 := by
  cases hx with
  | int i =>
    have hi : 1 ≤ i ∧ i ≤ 16 := of_decide_eq_true hw
    exact ⟨i.toNat, by rw [Int.toNat_of_nonneg (by omega)], by rw [Int.toNat_of_nonneg (by omega)], by omega, by omega⟩
  | _ => cases hw
theorem two_cases {CW CM CD CN : Addr} {vs : List V} {H : Hp} {Q : VK} {E : XK} (h : spTwo CW CM CD CN vs H Q E) : spRef CW CM vs H Q E ∨
    ∃ (wd : Nat) (p : Addr) (vv : List Nat), vs = [.int (wd : Int), .ref p] ∧ 1 ≤ wd ∧ wd ≤ 16 ∧ H p = some (.tup (V.nv vv)) ∧ vv.length ≤ 16 ∧ (∀ x ∈ vv, x < 2 ^ wd) ∧ ∀ H', Same H H' → (∀ u, Q u H') ∧ Flies CD .non E H' ∧ Flies CN .non E H' := by
  obtain ⟨N, M, x, v, dx, d, rfl, hx, hd, kW, k⟩ := h
  cases hw : widthD dx with
  | false =>
    refine .inl ⟨N, M, x, v, dx, d, rfl, hx, hd, fun _ => kW hw, fun wd e h1 h2 => ?_⟩
    rw [e] at hw
    exact nomatch (hw.symm.trans (decide_eq_true (p := 1 ≤ (wd : Int) ∧ (wd : Int) ≤ 16) ⟨by omega, by omega⟩))
  | true =>
    obtain ⟨wd, rfl, rfl, h1, h2⟩ := width_cases hx hw
    have kk := k wd rfl h1 h2
    cases hm : mapD wd d with
    | false =>
      refine .inl ⟨N, M, _, v, _, d, rfl, hx, hd, kW, fun wd' e _ _ => ?_⟩
      have e' : (wd : Int) = (wd' : Int) := PyData.int.inj e
      have ew : wd' = wd := by omega
      rw [ew]
      exact ⟨hm, kk.1 hm⟩
    | true =>
      obtain ⟨p, vv, rfl, _, hp, _, hl, hv⟩ := map_nv hd hm
      exact .inr ⟨wd, p, vv, rfl, h1, h2, hp, hl, hv, kk.2 hm⟩
section
variable {P : Program} {w : World} {K : PySem.W.Frag} {mg : Str → Option Value} {base : Heap}
theorem ref_kernel {f f1 f2 f3 f4 f5 f6 CB CW CM CA e0 e2 e3 e5 : Addr} {fd fd1 fd2 fd3 fd4 fd5 fd6 fde0 fde2 fde3 fde5 : FuncData} (EX : Exc K mg CB CW CM CA e0 e2 e3 e5 fde0 fde2 fde3 fde5) (A0 : At K mg "kernel" sKernel ["width", "masks"] f fd) (A1 : At K mg "is_int" sIsInt ["value"] f1 fd1) (A2 : At K mg "is_address" sIsAddr ["width", "value"] f2 fd2) (A3 : At K mg "are_addresses" sAreAddrs ["width", "value", "most"] f3 fd3) (A4 : At K mg "are_masks" sAreMasks ["width", "value"] f4 fd4) (A5 : At K mg "check_width" sCkWidth ["width"] f5 fd5) (A6 : At K mg "check_map" sCkMap ["width", "masks"] f6 fd6) (T : Txt K mg) : FnOk P w K mg base (L2.CX P w) 6 f fd ["width", "masks"] (spRef CW CM) := by
  have GW : FnOk P w K mg base (L2.CX P w) 4 f5 fd5 ["width"] (spCkW CW) := ok_ckW EX A5 A1 T
  have GM : FnOk P w K mg base (L2.CX P w) 5 f6 fd6 ["width", "masks"] (spCkM CM) := ok_ckM EX A6 A1 A2 A3 A4 T
  refine A0.fn.okX VK.scKernel (fun vs H Q E h => ?_) (fun cdv A outer s H vs Q E hr h => ?_)
  · obtain ⟨N, M, x, v, dx, d, rfl, _⟩ := h
    rfl
  · obtain ⟨N, M, x, v, dx, d, rfl, hx, hd, kW, k⟩ := h
    have hr4 : Room 4 _ := hr.mono (by decide)
    refine ⟨_, pss_cons (ps_expr (pe_call (E := E) GW hr4 (by rfl) A5.mg A5.fn.kp A5.bi .nil (passes_call (takes_of rfl rfl rfl rfl) fun _ _ _ _ h => h) (pa_cons (pv 0) pa_nil)))
      (pss_cons (ps_expr (pe_call (E := E) GM hr (by rfl) A6.mg A6.fn.kp A6.bi .nil (passes_call (takes_of rfl rfl rfl rfl) fun _ _ _ _ h => h) (pa_cons (pv 0) (pa_cons (pv 1) pa_nil)))) pss_no), ?_⟩
    refine ⟨_, rfl, N, x, dx, rfl, hx, fun hw => ?_, kW⟩
    obtain ⟨wd, rfl, rfl, w1, w16⟩ := width_cases hx hw
    obtain ⟨hm, kM⟩ := k wd rfl w1 w16
    exact ⟨_, rfl, _, rfl, wd, _, v, d, rfl, by omega, hd, fun e => (nomatch (hm.symm.trans e)), fun _ => kM⟩
theorem ref_bank_count {f f1 f2 f3 f4 f5 f6 CB CW CM CA e0 e2 e3 e5 : Addr} {fd fd1 fd2 fd3 fd4 fd5 fd6 fde0 fde2 fde3 fde5 : FuncData} (EX : Exc K mg CB CW CM CA e0 e2 e3 e5 fde0 fde2 fde3 fde5) (A0 : At K mg "bank_count" sBankCount ["width", "masks"] f fd) (A1 : At K mg "is_int" sIsInt ["value"] f1 fd1) (A2 : At K mg "is_address" sIsAddr ["width", "value"] f2 fd2) (A3 : At K mg "are_addresses" sAreAddrs ["width", "value", "most"] f3 fd3) (A4 : At K mg "are_masks" sAreMasks ["width", "value"] f4 fd4) (A5 : At K mg "check_width" sCkWidth ["width"] f5 fd5) (A6 : At K mg "check_map" sCkMap ["width", "masks"] f6 fd6) (T : Txt K mg) : FnOk P w K mg base (L2.CX P w) 6 f fd ["width", "masks"] (spRef CW CM) := by
  have GW : FnOk P w K mg base (L2.CX P w) 4 f5 fd5 ["width"] (spCkW CW) := ok_ckW EX A5 A1 T
  have GM : FnOk P w K mg base (L2.CX P w) 5 f6 fd6 ["width", "masks"] (spCkM CM) := ok_ckM EX A6 A1 A2 A3 A4 T
  refine A0.fn.okX VC.scBankCount (fun vs H Q E h => ?_) (fun cdv A outer s H vs Q E hr h => ?_)
  · obtain ⟨N, M, x, v, dx, d, rfl, _⟩ := h
    rfl
  · obtain ⟨N, M, x, v, dx, d, rfl, hx, hd, kW, k⟩ := h
    have hr4 : Room 4 _ := hr.mono (by decide)
    refine ⟨_, pss_cons (ps_expr (pe_call (E := E) GW hr4 (by rfl) A5.mg A5.fn.kp A5.bi .nil (passes_call (takes_of rfl rfl rfl rfl) fun _ _ _ _ h => h) (pa_cons (pv 0) pa_nil)))
      (pss_cons (ps_expr (pe_call (E := E) GM hr (by rfl) A6.mg A6.fn.kp A6.bi .nil (passes_call (takes_of rfl rfl rfl rfl) fun _ _ _ _ h => h) (pa_cons (pv 0) (pa_cons (pv 1) pa_nil)))) pss_no), ?_⟩
    refine ⟨_, rfl, N, x, dx, rfl, hx, fun hw => ?_, kW⟩
    obtain ⟨wd, rfl, rfl, w1, w16⟩ := width_cases hx hw
    obtain ⟨hm, kM⟩ := k wd rfl w1 w16
    exact ⟨_, rfl, _, rfl, wd, _, v, d, rfl, by omega, hd, fun e => (nomatch (hm.symm.trans e)), fun _ => kM⟩
theorem ref_completed {f f1 f2 f3 f4 f5 f6 CB CW CM CA e0 e2 e3 e5 : Addr} {fd fd1 fd2 fd3 fd4 fd5 fd6 fde0 fde2 fde3 fde5 : FuncData} (EX : Exc K mg CB CW CM CA e0 e2 e3 e5 fde0 fde2 fde3 fde5) (A0 : At K mg "completed" sComp ["width", "masks"] f fd) (A1 : At K mg "is_int" sIsInt ["value"] f1 fd1) (A2 : At K mg "is_address" sIsAddr ["width", "value"] f2 fd2) (A3 : At K mg "are_addresses" sAreAddrs ["width", "value", "most"] f3 fd3) (A4 : At K mg "are_masks" sAreMasks ["width", "value"] f4 fd4) (A5 : At K mg "check_width" sCkWidth ["width"] f5 fd5) (A6 : At K mg "check_map" sCkMap ["width", "masks"] f6 fd6) (T : Txt K mg) : FnOk P w K mg base (L2.CX P w) 6 f fd ["width", "masks"] (spRef CW CM) := by
  have GW : FnOk P w K mg base (L2.CX P w) 4 f5 fd5 ["width"] (spCkW CW) := ok_ckW EX A5 A1 T
  have GM : FnOk P w K mg base (L2.CX P w) 5 f6 fd6 ["width", "masks"] (spCkM CM) := ok_ckM EX A6 A1 A2 A3 A4 T
  refine A0.fn.okX VD.scComp (fun vs H Q E h => ?_) (fun cdv A outer s H vs Q E hr h => ?_)
  · obtain ⟨N, M, x, v, dx, d, rfl, _⟩ := h
    rfl
  · obtain ⟨N, M, x, v, dx, d, rfl, hx, hd, kW, k⟩ := h
    have hr4 : Room 4 _ := hr.mono (by decide)
    refine ⟨_, pss_cons (ps_expr (pe_call (E := E) GW hr4 (by rfl) A5.mg A5.fn.kp A5.bi .nil (passes_call (takes_of rfl rfl rfl rfl) fun _ _ _ _ h => h) (pa_cons (pv 0) pa_nil)))
      (pss_cons (ps_expr (pe_call (E := E) GM hr (by rfl) A6.mg A6.fn.kp A6.bi .nil (passes_call (takes_of rfl rfl rfl rfl) fun _ _ _ _ h => h) (pa_cons (pv 0) (pa_cons (pv 1) pa_nil)))) pss_no), ?_⟩
    refine ⟨_, rfl, N, x, dx, rfl, hx, fun hw => ?_, kW⟩
    obtain ⟨wd, rfl, rfl, w1, w16⟩ := width_cases hx hw
    obtain ⟨hm, kM⟩ := k wd rfl w1 w16
    exact ⟨_, rfl, _, rfl, wd, _, v, d, rfl, by omega, hd, fun e => (nomatch (hm.symm.trans e)), fun _ => kM⟩
theorem ref_inverse {f f1 f2 f3 f4 f5 f6 CB CW CM CA e0 e2 e3 e5 : Addr} {fd fd1 fd2 fd3 fd4 fd5 fd6 fde0 fde2 fde3 fde5 : FuncData} (EX : Exc K mg CB CW CM CA e0 e2 e3 e5 fde0 fde2 fde3 fde5) (A0 : At K mg "inverse" sInv ["width", "masks"] f fd) (A1 : At K mg "is_int" sIsInt ["value"] f1 fd1) (A2 : At K mg "is_address" sIsAddr ["width", "value"] f2 fd2) (A3 : At K mg "are_addresses" sAreAddrs ["width", "value", "most"] f3 fd3) (A4 : At K mg "are_masks" sAreMasks ["width", "value"] f4 fd4) (A5 : At K mg "check_width" sCkWidth ["width"] f5 fd5) (A6 : At K mg "check_map" sCkMap ["width", "masks"] f6 fd6) (T : Txt K mg) : FnOk P w K mg base (L2.CX P w) 6 f fd ["width", "masks"] (spRef CW CM) := by
  have GW : FnOk P w K mg base (L2.CX P w) 4 f5 fd5 ["width"] (spCkW CW) := ok_ckW EX A5 A1 T
  have GM : FnOk P w K mg base (L2.CX P w) 5 f6 fd6 ["width", "masks"] (spCkM CM) := ok_ckM EX A6 A1 A2 A3 A4 T
  refine A0.fn.okX VN.scInv (fun vs H Q E h => ?_) (fun cdv A outer s H vs Q E hr h => ?_)
  · obtain ⟨N, M, x, v, dx, d, rfl, _⟩ := h
    rfl
  · obtain ⟨N, M, x, v, dx, d, rfl, hx, hd, kW, k⟩ := h
    have hr4 : Room 4 _ := hr.mono (by decide)
    refine ⟨_, pss_cons (ps_expr (pe_call (E := E) GW hr4 (by rfl) A5.mg A5.fn.kp A5.bi .nil (passes_call (takes_of rfl rfl rfl rfl) fun _ _ _ _ h => h) (pa_cons (pv 0) pa_nil)))
      (pss_cons (ps_expr (pe_call (E := E) GM hr (by rfl) A6.mg A6.fn.kp A6.bi .nil (passes_call (takes_of rfl rfl rfl rfl) fun _ _ _ _ h => h) (pa_cons (pv 0) (pa_cons (pv 1) pa_nil)))) pss_no), ?_⟩
    refine ⟨_, rfl, N, x, dx, rfl, hx, fun hw => ?_, kW⟩
    obtain ⟨wd, rfl, rfl, w1, w16⟩ := width_cases hx hw
    obtain ⟨hm, kM⟩ := k wd rfl w1 w16
    exact ⟨_, rfl, _, rfl, wd, _, v, d, rfl, by omega, hd, fun e => (nomatch (hm.symm.trans e)), fun _ => kM⟩
end
end X1
set_option Elab.async false
set_option maxRecDepth 100000
set_option maxHeartbeats 8000000
set_option pp.maxSteps 600
namespace X1
open PySem L2
open G (Dv DvAll DvKv Wf WfA Keeps spInit ClsFn FunD KxC Kept Flies)
section
variable {P : Program} {w : World} {K : PySem.W.Frag} {mg : Str → Option Value} {base : Heap}
theorem two_kernel {f f1 f2 f3 f4 f5 f6 CB CW CM CA CD CN e0 e2 e3 e5 g1 g2 g3 g4 g5 : Addr} {fd fd1 fd2 fd3 fd4 fd5 fd6 fde0 fde2 fde3 fde5 gd1 gd2 gd3 gd4 gd5 : FuncData} (EX : Exc K mg CB CW CM CA e0 e2 e3 e5 fde0 fde2 fde3 fde5) (A0 : At K mg "kernel" sKernel ["width", "masks"] f fd) (A1 : At K mg "is_int" sIsInt ["value"] f1 fd1) (A2 : At K mg "is_address" sIsAddr ["width", "value"] f2 fd2) (A3 : At K mg "are_addresses" sAreAddrs ["width", "value", "most"] f3 fd3) (A4 : At K mg "are_masks" sAreMasks ["width", "value"] f4 fd4) (A5 : At K mg "check_width" sCkWidth ["width"] f5 fd5) (A6 : At K mg "check_map" sCkMap ["width", "masks"] f6 fd6) (AM : At K mg "remainder" sRem ["rows", "vector"] g1 gd1) (AR : At K mg "reduced" sRed ["vectors"] g2 gd2) (AH : At K mg "highest_bit" sHb ["number"] g3 gd3) (AP : At K mg "powers" sPowers ["width"] g4 gd4) (AO : At K mg "orthogonal" sOrth ["width", "vectors"] g5 gd5) (T : Txt K mg) : FnOk P w K mg base (L2.CX P w) 6 f fd ["width", "masks"] (spTwo CW CM CD CN) :=
  (both (ref_kernel EX A0 A1 A2 A3 A4 A5 A6 T) (up0 (VK.ok_kernel A0 A1 A2 A3 A4 A5 A6 AM AR AH AP AO T))).imp fun vs H Q E h => (two_cases h).imp_right fun ⟨wd, p, vv, e, h1, h2, hp, hl, hv, kk⟩ => ⟨wd, p, vv, e, h1, h2, hp, hl, hv, fun q A H' s _ _ _ _ _ => (kk H' s).1 _⟩
theorem two_bank_count {f f1 f2 f3 f4 f5 f6 CB CW CM CA CD CN e0 e2 e3 e5 g1 g2 : Addr} {fd fd1 fd2 fd3 fd4 fd5 fd6 fde0 fde2 fde3 fde5 gd1 gd2 : FuncData} (EX : Exc K mg CB CW CM CA e0 e2 e3 e5 fde0 fde2 fde3 fde5) (A0 : At K mg "bank_count" sBankCount ["width", "masks"] f fd) (A1 : At K mg "is_int" sIsInt ["value"] f1 fd1) (A2 : At K mg "is_address" sIsAddr ["width", "value"] f2 fd2) (A3 : At K mg "are_addresses" sAreAddrs ["width", "value", "most"] f3 fd3) (A4 : At K mg "are_masks" sAreMasks ["width", "value"] f4 fd4) (A5 : At K mg "check_width" sCkWidth ["width"] f5 fd5) (A6 : At K mg "check_map" sCkMap ["width", "masks"] f6 fd6) (AM : At K mg "remainder" sRem ["rows", "vector"] g1 gd1) (AR : At K mg "reduced" sRed ["vectors"] g2 gd2)  (T : Txt K mg) : FnOk P w K mg base (L2.CX P w) 6 f fd ["width", "masks"] (spTwo CW CM CD CN) :=
  (both (ref_bank_count EX A0 A1 A2 A3 A4 A5 A6 T) (up0 (VC.ok_bankCount A0 A1 A2 A3 A4 A5 A6 AM AR T))).imp fun vs H Q E h => (two_cases h).imp_right fun ⟨wd, p, vv, e, h1, h2, hp, hl, hv, kk⟩ => ⟨wd, p, vv, e, h1, h2, hp, hl, hv, fun H' s => (kk H' s).1 _⟩
theorem two_completed {f f1 f2 f3 f4 f5 f6 CB CW CM CA CD CN e0 e2 e3 e5 e6 g1 g2 g4 g5 : Addr} {fd fd1 fd2 fd3 fd4 fd5 fd6 fde0 fde2 fde3 fde5 fde0' fde6 gd1 gd2 gd4 gd5 : FuncData} (EX : Exc K mg CB CW CM CA e0 e2 e3 e5 fde0 fde2 fde3 fde5) (ED : VD.Exc K mg CB CD CW CM e0 e6 fde0' fde6) (A0 : At K mg "completed" sComp ["width", "masks"] f fd) (A1 : At K mg "is_int" sIsInt ["value"] f1 fd1) (A2 : At K mg "is_address" sIsAddr ["width", "value"] f2 fd2) (A3 : At K mg "are_addresses" sAreAddrs ["width", "value", "most"] f3 fd3) (A4 : At K mg "are_masks" sAreMasks ["width", "value"] f4 fd4) (A5 : At K mg "check_width" sCkWidth ["width"] f5 fd5) (A6 : At K mg "check_map" sCkMap ["width", "masks"] f6 fd6) (AM : At K mg "remainder" sRem ["rows", "vector"] g1 gd1) (AR : At K mg "reduced" sRed ["vectors"] g2 gd2) (AP : At K mg "powers" sPowers ["width"] g4 gd4) (AI : At K mg "are_independent" sInd ["masks"] g5 gd5) (T : Txt K mg) : FnOk P w K mg base (L2.CX P w) 6 f fd ["width", "masks"] (spTwo CW CM CD CN) :=
  (both (ref_completed EX A0 A1 A2 A3 A4 A5 A6 T) (VD.ok_comp ED A0 A1 A2 A3 A4 A5 A6 AM AR AP AI T)).imp fun vs H Q E h => (two_cases h).imp_right fun ⟨wd, p, vv, e, h1, h2, hp, hl, hv, kk⟩ => ⟨wd, p, vv, e, h1, h2, hp, hl, hv, fun _ q H' s _ => (kk H' s).1 _, fun _ H' s => (kk H' s).2.1⟩
theorem two_inverse {f f1 f2 f3 f4 f5 f6 CB CW CM CA CD CN e0 e2 e3 e5 e7 g1 g2 g4 g5 g6 : Addr} {fd fd1 fd2 fd3 fd4 fd5 fd6 fde0 fde2 fde3 fde5 fde0' fde7 gd1 gd2 gd4 gd5 gd6 : FuncData} (EX : Exc K mg CB CW CM CA e0 e2 e3 e5 fde0 fde2 fde3 fde5) (EN : VN.Exc K mg CB CN CW CM e0 e7 fde0' fde7) (A0 : At K mg "inverse" sInv ["width", "masks"] f fd) (A1 : At K mg "is_int" sIsInt ["value"] f1 fd1) (A2 : At K mg "is_address" sIsAddr ["width", "value"] f2 fd2) (A3 : At K mg "are_addresses" sAreAddrs ["width", "value", "most"] f3 fd3) (A4 : At K mg "are_masks" sAreMasks ["width", "value"] f4 fd4) (A5 : At K mg "check_width" sCkWidth ["width"] f5 fd5) (A6 : At K mg "check_map" sCkMap ["width", "masks"] f6 fd6) (AM : At K mg "remainder" sRem ["rows", "vector"] g1 gd1) (AR : At K mg "reduced" sRed ["vectors"] g2 gd2) (AP : At K mg "powers" sPowers ["width"] g4 gd4) (AI : At K mg "are_independent" sInd ["masks"] g5 gd5) (AC : At K mg "recoded" sRec ["masks", "others"] g6 gd6) (T : Txt K mg) : FnOk P w K mg base (L2.CX P w) 6 f fd ["width", "masks"] (spTwo CW CM CD CN) :=
  (both (ref_inverse EX A0 A1 A2 A3 A4 A5 A6 T) (VN.ok_inv EN A0 A1 A2 A3 A4 A5 A6 AM AR AP AI AC T)).imp fun vs H Q E h => (two_cases h).imp_right fun ⟨wd, p, vv, e, h1, h2, hp, hl, hv, kk⟩ => ⟨wd, p, vv, e, h1, h2, hp, hl, hv, fun _ R q H' _ s _ => (kk H' s).1 _, fun _ H' s => (kk H' s).2.2⟩
end
end X1
set_option Elab.async false
set_option maxRecDepth 100000
set_option maxHeartbeats 8000000
set_option pp.maxSteps 600
namespace X1
open PySem L2
open G (Dv DvAll DvKv Wf WfA Keeps spInit ClsFn FunD KxC Kept Flies mkO_of)
section
variable {P : Program} {w : World} {K : PySem.W.Frag} {mg : Str → Option Value} {base : Heap}
/-! ### recoding, of any value -/
def spRecA (CW CM : Addr) : Sp := fun vs H Q E => ∃ (N M L : Addr → Prop) (x v u : V) (dx d du : PyData), vs = [x, v, u] ∧ Dv N H x dx ∧ Dv M H v d ∧ Dv L H u du ∧ (widthD dx = false → Flies CW x E H) ∧
  ∀ wd : Nat, dx = .int (wd : Int) → 1 ≤ wd → wd ≤ 16 → (mapD wd d = false → ∀ H', Same H H' → Flies CM v E H') ∧ (mapD wd d = true → mapD wd du = false → ∀ H', Same H H' → Flies CM u E H') ∧ (mapD wd du = true → d = .tuple [] → ∀ H', Same H H' → Flies CM v E H') ∧
    (mapD wd d = true → mapD wd du = true → d ≠ .tuple [] → ∀ H', Same H H' → ∀ z, Q z H')
def spRecR (CW CM : Addr) : Sp := fun vs H _ E => ∃ (N M L : Addr → Prop) (x v u : V) (dx d du : PyData), vs = [x, v, u] ∧ Dv N H x dx ∧ Dv M H v d ∧ Dv L H u du ∧ (widthD dx = false → Flies CW x E H) ∧
  ∀ wd : Nat, dx = .int (wd : Int) → 1 ≤ wd → wd ≤ 16 → (mapD wd d = false → ∀ H', Same H H' → Flies CM v E H') ∧ (mapD wd d = true → mapD wd du = false → ∀ H', Same H H' → Flies CM u E H') ∧ (mapD wd d = true → mapD wd du = true → d = .tuple [] ∧ ∀ H', Same H H' → Flies CM v E H')
theorem ref_recoding {f f1 f2 f3 f4 f5 f6 CB CW CM CA e0 e2 e3 e5 : Addr} {fd fd1 fd2 fd3 fd4 fd5 fd6 fde0 fde2 fde3 fde5 : FuncData} (EX : Exc K mg CB CW CM CA e0 e2 e3 e5 fde0 fde2 fde3 fde5) (A0 : At K mg "recoding" sRecg ["width", "masks", "others"] f fd) (A1 : At K mg "is_int" sIsInt ["value"] f1 fd1) (A2 : At K mg "is_address" sIsAddr ["width", "value"] f2 fd2) (A3 : At K mg "are_addresses" sAreAddrs ["width", "value", "most"] f3 fd3) (A4 : At K mg "are_masks" sAreMasks ["width", "value"] f4 fd4) (A5 : At K mg "check_width" sCkWidth ["width"] f5 fd5) (A6 : At K mg "check_map" sCkMap ["width", "masks"] f6 fd6) (T : Txt K mg) : FnOk P w K mg base (L2.CX P w) 6 f fd ["width", "masks", "others"] (spRecR CW CM) := by
  have GW : FnOk P w K mg base (L2.CX P w) 4 f5 fd5 ["width"] (spCkW CW) := ok_ckW EX A5 A1 T
  have GM : FnOk P w K mg base (L2.CX P w) 5 f6 fd6 ["width", "masks"] (spCkM CM) := ok_ckM EX A6 A1 A2 A3 A4 T
  have G5 : FnOk P w K mg base CX0 2 e3 fde3 ["self", "value"] (spInit K) := ok_init3 EX
  refine A0.fn.okX VR.scRecg (fun vs H Q E h => ?_) (fun cdv A outer s H vs Q E hr h => ?_)
  · obtain ⟨N, M, L, x, v, u, dx, d, du, rfl, _⟩ := h
    rfl
  · obtain ⟨N, M, L, x, v, u, dx, d, du, rfl, hx, hd, hu, kW, k⟩ := h
    have hr4 : Room 4 _ := hr.mono (by decide)
    have hr3 : Room 3 _ := hr.mono (by decide)
    refine ⟨_, pss_cons (ps_expr (pe_call (E := E) GW hr4 (by rfl) A5.mg A5.fn.kp A5.bi .nil (passes_call (takes_of rfl rfl rfl rfl) fun _ _ _ _ h => h) (pa_cons (pv 0) pa_nil)))
      (pss_cons (ps_expr (pe_call (E := E) GM hr (by rfl) A6.mg A6.fn.kp A6.bi .nil (passes_call (takes_of rfl rfl rfl rfl) fun _ _ _ _ h => h) (pa_cons (pv 0) (pa_cons (pv 1) pa_nil))))
      (pss_cons (ps_expr (pe_call (E := E) GM hr (by rfl) A6.mg A6.fn.kp A6.bi .nil (passes_call (takes_of rfl rfl rfl rfl) fun _ _ _ _ h => h) (pa_cons (pv 0) (pa_cons (pv 2) pa_nil))))
      (pss_cons (ps_if (pt_cmpR op_eq (pe_callB call_len_seq (by rfl) T.len PySem.boot_len (pa_cons (pv 1) pa_nil)) pe_int (nomark _)) (pss_one (ps_raise rfl (takes_of rfl rfl rfl rfl) (pmk_oex EX.oM EX.iM EX.tM G5 hr3 EX.b3 .nil pass0 (by rfl) EX.gM (pa_cons (pv 1) pa_nil)))) pss_nil) pss_no))), ?_⟩
    refine ⟨_, rfl, N, x, dx, rfl, hx, fun hw => ?_, kW⟩
    obtain ⟨wd, rfl, rfl, w1, w16⟩ := width_cases hx hw
    obtain ⟨k1, k2, k3⟩ := k wd rfl w1 w16
    refine ⟨_, rfl, _, rfl, wd, _, v, d, rfl, by omega, hd, fun e H2 s2 => ?_, k1⟩
    refine ⟨_, rfl, _, rfl, wd, _, u, du, rfl, by omega, hu.same s2, fun e2 H3 s3 => ?_, fun e2 H3 s3 => k2 e e2 H3 (s2.trans s3)⟩
    obtain ⟨rfl, kf⟩ := k3 e e2
    have hd3 := hd.same (s2.trans s3)
    cases hd3 with
    | tup n hp ha =>
      cases ha
      refine ⟨_, rfl, _, _, rfl, .inr (SqT.of hp), rfl, _, rfl, iteTb (decide_eq_true rfl) ?_⟩
      exact ⟨_, rfl, mkO_of EX.oM EX.noM (kf H3 (s2.trans s3))⟩
theorem two_recoding {f f1 f2 f3 f4 f5 f6 g1 g2 g3 CB CW CM CA e0 e2 e3 e5 : Addr} {fd fd1 fd2 fd3 fd4 fd5 fd6 gd1 gd2 gd3 fde0 fde2 fde3 fde5 : FuncData} (EX : Exc K mg CB CW CM CA e0 e2 e3 e5 fde0 fde2 fde3 fde5) (A0 : At K mg "recoding" sRecg ["width", "masks", "others"] f fd) (A1 : At K mg "is_int" sIsInt ["value"] f1 fd1) (A2 : At K mg "is_address" sIsAddr ["width", "value"] f2 fd2) (A3 : At K mg "are_addresses" sAreAddrs ["width", "value", "most"] f3 fd3) (A4 : At K mg "are_masks" sAreMasks ["width", "value"] f4 fd4) (A5 : At K mg "check_width" sCkWidth ["width"] f5 fd5) (A6 : At K mg "check_map" sCkMap ["width", "masks"] f6 fd6)
    (AM : At K mg "remainder" sRem ["rows", "vector"] g1 gd1) (AR : At K mg "reduced" sRed ["vectors"] g2 gd2) (AC : At K mg "recoded" sRec ["masks", "others"] g3 gd3) (T : Txt K mg) : FnOk P w K mg base (L2.CX P w) 6 f fd ["width", "masks", "others"] (spRecA CW CM) :=
  (both (ref_recoding EX A0 A1 A2 A3 A4 A5 A6 T) (up0 (VR.ok_recg A0 A1 A2 A3 A4 A5 A6 AM AR AC T))).imp fun vs H Q E h => by
    obtain ⟨N, M, L, x, v, u, dx, d, du, rfl, hx, hd, hu, kW, k⟩ := h
    cases hw : widthD dx with
    | false =>
      refine .inl ⟨N, M, L, x, v, u, dx, d, du, rfl, hx, hd, hu, kW, fun wd e h1 h2 => ?_⟩
      rw [e] at hw
      exact nomatch (hw.symm.trans (decide_eq_true (p := 1 ≤ (wd : Int) ∧ (wd : Int) ≤ 16) ⟨by omega, by omega⟩))
    | true =>
      obtain ⟨wd, rfl, rfl, h1, h2⟩ := width_cases hx hw
      obtain ⟨k1, k2, k3, k4⟩ := k wd rfl h1 h2
      by_cases hg : mapD wd d = true ∧ mapD wd du = true ∧ d ≠ .tuple []
      · obtain ⟨g1, g2, g3⟩ := hg
        obtain ⟨p, vv, rfl, _, hp, e, hl, hv⟩ := map_nv hd g1
        obtain ⟨q, os, rfl, _, hq, _, hl2, hv2⟩ := map_nv hu g2
        refine .inr ⟨wd, p, q, vv, os, rfl, h1, h2, hp, hq, ?_, hl, hl2, hv, hv2, fun _ R t H' _ s _ => k4 g1 g2 g3 H' s _, fun _ H' s => k4 g1 g2 g3 H' s _⟩
        cases vv with
        | nil => exact absurd e g3
        | cons a b => exact Nat.succ_pos _
      · refine .inl ⟨N, M, L, _, v, u, _, d, du, rfl, hx, hd, hu, kW, fun wd' e _ _ => ?_⟩
        have e' : (wd : Int) = (wd' : Int) := PyData.int.inj e
        have ew : wd' = wd := by omega
        rw [ew]
        refine ⟨k1, k2, fun g1 g2 => ?_⟩
        have g3 : d = .tuple [] := Classical.byContradiction fun g3 => hg ⟨g1, g2, g3⟩
        exact ⟨g3, k3 g2 g3⟩
/-! ### bank, of any value -/
def spBankA (CW CM CA : Addr) : Sp := fun vs H Q E => ∃ (N M L : Addr → Prop) (x v u : V) (dx d du : PyData), vs = [x, v, u] ∧ Dv N H x dx ∧ Dv M H v d ∧ Dv L H u du ∧ (widthD dx = false → Flies CW x E H) ∧
  ∀ wd : Nat, dx = .int (wd : Int) → 1 ≤ wd → wd ≤ 16 → (mapD wd d = false → ∀ H', Same H H' → Flies CM v E H') ∧ (mapD wd d = true → addrD wd du = false → ∀ H', Same H H' → Flies CA u E H') ∧ (mapD wd d = true → addrD wd du = true → ∀ H', Same H H' → ∀ z, Q z H')
def spBankR (CW CM CA : Addr) : Sp := fun vs H _ E => ∃ (N M L : Addr → Prop) (x v u : V) (dx d du : PyData), vs = [x, v, u] ∧ Dv N H x dx ∧ Dv M H v d ∧ Dv L H u du ∧ (widthD dx = false → Flies CW x E H) ∧
  ∀ wd : Nat, dx = .int (wd : Int) → 1 ≤ wd → wd ≤ 16 → (mapD wd d = false → ∀ H', Same H H' → Flies CM v E H') ∧ (mapD wd d = true → addrD wd du = false ∧ ∀ H', Same H H' → Flies CA u E H')
theorem ref_bank {f f1 f2 f3 f4 f5 f6 f7 CB CW CM CA e0 e2 e3 e5 : Addr} {fd fd1 fd2 fd3 fd4 fd5 fd6 fd7 fde0 fde2 fde3 fde5 : FuncData} (EX : Exc K mg CB CW CM CA e0 e2 e3 e5 fde0 fde2 fde3 fde5) (A0 : At K mg "bank" sBank ["width", "masks", "address"] f fd) (A1 : At K mg "is_int" sIsInt ["value"] f1 fd1) (A2 : At K mg "is_address" sIsAddr ["width", "value"] f2 fd2) (A3 : At K mg "are_addresses" sAreAddrs ["width", "value", "most"] f3 fd3) (A4 : At K mg "are_masks" sAreMasks ["width", "value"] f4 fd4) (A5 : At K mg "check_width" sCkWidth ["width"] f5 fd5) (A6 : At K mg "check_map" sCkMap ["width", "masks"] f6 fd6) (A7 : At K mg "check_address" sCkAddr ["width", "address"] f7 fd7) (T : Txt K mg) : FnOk P w K mg base (L2.CX P w) 6 f fd ["width", "masks", "address"] (spBankR CW CM CA) := by
  have GW : FnOk P w K mg base (L2.CX P w) 4 f5 fd5 ["width"] (spCkW CW) := ok_ckW EX A5 A1 T
  have GM : FnOk P w K mg base (L2.CX P w) 5 f6 fd6 ["width", "masks"] (spCkM CM) := ok_ckM EX A6 A1 A2 A3 A4 T
  have GA : FnOk P w K mg base (L2.CX P w) 5 f7 fd7 ["width", "address"] (spCkA CA) := ok_ckA EX A7 A1 A2 T
  refine A0.fn.okX VB.scBank (fun vs H Q E h => ?_) (fun cdv A outer s H vs Q E hr h => ?_)
  · obtain ⟨N, M, L, x, v, u, dx, d, du, rfl, _⟩ := h
    rfl
  · obtain ⟨N, M, L, x, v, u, dx, d, du, rfl, hx, hd, hu, kW, k⟩ := h
    have hr4 : Room 4 _ := hr.mono (by decide)
    refine ⟨_, pss_cons (ps_expr (pe_call (E := E) GW hr4 (by rfl) A5.mg A5.fn.kp A5.bi .nil (passes_call (takes_of rfl rfl rfl rfl) fun _ _ _ _ h => h) (pa_cons (pv 0) pa_nil)))
      (pss_cons (ps_expr (pe_call (E := E) GM hr (by rfl) A6.mg A6.fn.kp A6.bi .nil (passes_call (takes_of rfl rfl rfl rfl) fun _ _ _ _ h => h) (pa_cons (pv 0) (pa_cons (pv 1) pa_nil))))
      (pss_cons (ps_expr (pe_call (E := E) GA hr (by rfl) A7.mg A7.fn.kp A7.bi .nil (passes_call (takes_of rfl rfl rfl rfl) fun _ _ _ _ h => h) (pa_cons (pv 0) (pa_cons (pv 2) pa_nil)))) pss_no)), ?_⟩
    refine ⟨_, rfl, N, x, dx, rfl, hx, fun hw => ?_, kW⟩
    obtain ⟨wd, rfl, rfl, w1, w16⟩ := width_cases hx hw
    obtain ⟨k1, k2⟩ := k wd rfl w1 w16
    refine ⟨_, rfl, _, rfl, wd, _, v, d, rfl, by omega, hd, fun e H2 s2 => ?_, k1⟩
    obtain ⟨hm, kf⟩ := k2 e
    exact ⟨_, rfl, _, rfl, wd, _, u, du, rfl, by omega, hu.same s2, fun e2 => (nomatch (hm.symm.trans e2)), fun _ => kf H2 s2⟩
theorem two_bank {f f1 f2 f3 f4 f5 f6 f7 f8 f9 CB CW CM CA e0 e2 e3 e5 : Addr} {fd fd1 fd2 fd3 fd4 fd5 fd6 fd7 fd8 fd9 fde0 fde2 fde3 fde5 : FuncData} (EX : Exc K mg CB CW CM CA e0 e2 e3 e5 fde0 fde2 fde3 fde5) (A0 : At K mg "bank" sBank ["width", "masks", "address"] f fd) (A1 : At K mg "is_int" sIsInt ["value"] f1 fd1) (A2 : At K mg "is_address" sIsAddr ["width", "value"] f2 fd2) (A3 : At K mg "are_addresses" sAreAddrs ["width", "value", "most"] f3 fd3) (A4 : At K mg "are_masks" sAreMasks ["width", "value"] f4 fd4) (A5 : At K mg "check_width" sCkWidth ["width"] f5 fd5) (A6 : At K mg "check_map" sCkMap ["width", "masks"] f6 fd6) (A7 : At K mg "check_address" sCkAddr ["width", "address"] f7 fd7)
    (A8 : At K mg "parity" sParity ["number"] f8 fd8) (A9 : At K mg "bank_of" sBankOf ["masks", "address"] f9 fd9) (T : Txt K mg) : FnOk P w K mg base (L2.CX P w) 6 f fd ["width", "masks", "address"] (spBankA CW CM CA) :=
  (both (ref_bank EX A0 A1 A2 A3 A4 A5 A6 A7 T) (up0 (VB.ok_bank A0 A1 A2 A3 A4 A5 A6 A7 A8 A9 T))).imp fun vs H Q E h => by
    obtain ⟨N, M, L, x, v, u, dx, d, du, rfl, hx, hd, hu, kW, k⟩ := h
    cases hw : widthD dx with
    | false =>
      refine .inl ⟨N, M, L, x, v, u, dx, d, du, rfl, hx, hd, hu, kW, fun wd e h1 h2 => ?_⟩
      rw [e] at hw
      exact nomatch (hw.symm.trans (decide_eq_true (p := 1 ≤ (wd : Int) ∧ (wd : Int) ≤ 16) ⟨by omega, by omega⟩))
    | true =>
      obtain ⟨wd, rfl, rfl, h1, h2⟩ := width_cases hx hw
      obtain ⟨k1, k2, k4⟩ := k wd rfl h1 h2
      by_cases hg : mapD wd d = true ∧ addrD wd du = true
      · obtain ⟨g1, g2⟩ := hg
        obtain ⟨p, vv, rfl, _, hp, e, hl, hv⟩ := map_nv hd g1
        cases hu with
        | int i =>
          have hi : 0 ≤ i ∧ i < ((2 ^ wd : Nat) : Int) := of_decide_eq_true g2
          refine .inr ⟨wd, i, p, vv.map fun n : Nat => (n : Int), rfl, by omega, by omega, by rw [hp, V.nv, List.map_map]; rfl, by rw [List.length_map]; exact hl, fun x hx => ?_, hi.1, by rw [Int.toNat_natCast, ← pow_cast]; exact hi.2, fun H' s => k4 g1 g2 H' s _⟩
          obtain ⟨n, hn, rfl⟩ := List.mem_map.mp hx
          have := hv n hn
          rw [Int.toNat_natCast, ← pow_cast]
          omega
        | _ => cases g2
      · refine .inl ⟨N, M, L, _, v, u, _, d, du, rfl, hx, hd, hu, kW, fun wd' e _ _ => ?_⟩
        have e' : (wd : Int) = (wd' : Int) := PyData.int.inj e
        have ew : wd' = wd := by omega
        rw [ew]
        refine ⟨k1, fun g1 => ?_⟩
        have g2 : addrD wd du = false := Bool.eq_false_iff.mpr fun g2 => hg ⟨g1, g2⟩
        exact ⟨g2, k2 g1 g2⟩
end
end X1
set_option Elab.async false
set_option maxRecDepth 100000
set_option maxHeartbeats 8000000
set_option pp.maxSteps 600
namespace X1
open PySem L2
open G (Dv DvAll DvKv Wf WfA Keeps spInit ClsFn FunD KxC Kept Flies catV)
/-! ### tuples of tuples, joined -/
def joinD (ds : List PyData) : List PyData := ds.flatMap fun | .tuple es => es | _ => []
theorem joinD_cons (es : List PyData) (ds : List PyData) : joinD (.tuple es :: ds) = es ++ joinD ds := rfl
theorem map_tup {wd : Nat} {d : PyData} (h : mapD wd d = true) : ∃ es, d = .tuple es ∧ es.length ≤ 16 ∧ es.all (addrD wd) = true := by
  cases d with
  | tuple es =>
    have h : (decide (es.length ≤ 16) && es.all (addrD wd)) = true := h
    rw [Bool.and_eq_true, decide_eq_true_iff] at h
    exact ⟨es, rfl, h.1, h.2⟩
  | _ => cases h
theorem join_all {wd : Nat} : ∀ {ds : List PyData}, (∀ e ∈ ds, mapD wd e = true) → (joinD ds).all (addrD wd) = true ∧ (joinD ds).length ≤ 16 * ds.length
  | [], _ => ⟨rfl, Nat.zero_le _⟩
  | d :: ds, h => by
    obtain ⟨es, rfl, h1, h2⟩ := map_tup (h d (List.mem_cons_self ..))
    obtain ⟨h3, h4⟩ := join_all fun e he => h e (List.mem_cons_of_mem _ he)
    rw [joinD_cons]
    refine ⟨by rw [List.all_append, h2, h3]; rfl, ?_⟩
    rw [List.length_append, List.length_cons]
    omega
theorem join_map {wd : Nat} {ds : List PyData} (h : ∀ e ∈ ds, mapD wd e = true) : mapD wd (.tuple (joinD ds)) = decide ((joinD ds).length ≤ 16) := by
  show (decide ((joinD ds).length ≤ 16) && (joinD ds).all (addrD wd)) = _
  rw [(join_all h).1, Bool.and_true]
def pA (p : Addr × List V) : V := .ref p.1
theorem tups_of {N : Addr → Prop} {H : Hp} {wd : Nat} : ∀ {ds : List PyData} {xs : List V}, DvAll N H xs ds → (∀ e ∈ ds, mapD wd e = true) → ∃ ps : List (Addr × List V), xs = ps.map pA ∧ (∀ p ∈ ps, N p.1 ∧ H p.1 = some (.tup p.2) ∧ p.2.length ≤ 16) ∧ DvAll N H (ps.flatMap (·.2)) (joinD ds) := by
  intro ds
  induction ds with
  | nil =>
    intro xs h _
    cases h
    exact ⟨[], rfl, fun p hp => (nomatch hp), .nil⟩
  | cons d ds ih =>
    intro xs h hm
    cases h with
    | cons a b =>
      obtain ⟨es, rfl, h1, _⟩ := map_tup (hm d (List.mem_cons_self ..))
      obtain ⟨ps, e1, e2, e3⟩ := ih b fun e he => hm e (List.mem_cons_of_mem _ he)
      cases a with
      | @tup a0 ys0 _ n hp ha =>
        refine ⟨(a0, ys0) :: ps, by rw [e1]; rfl, fun p hp' => ?_, ?_⟩
        · rcases List.mem_cons.mp hp' with rfl | hp'
          · exact ⟨n, hp, by rw [ha.len]; exact h1⟩
          · exact e2 p hp'
        · exact ha.app e3
def atP (ps : List (Addr × List V)) (i : Nat) : Addr := match ps[i]? with
  | some p => p.1
  | none => 0
def fP (ps : List (Addr × List V)) (i : Nat) : List V := match ps[i]? with
  | some p => p.2
  | none => []
theorem cat_flat (ps : List (Addr × List V)) : ∀ i, i ≤ ps.length → catV (fP ps) i = (ps.take i).flatMap (·.2)
  | 0, _ => by rw [List.take_zero]; rfl
  | i + 1, h => by
    have e : ps[i]? = some ps[i] := List.getElem?_eq_getElem h
    rw [List.take_add_one, List.flatMap_append, ← cat_flat ps i (Nat.le_of_succ_le h), e]
    show catV (fP ps) i ++ fP ps i = _
    unfold fP
    rw [e]
    simp
theorem at_mapP (ps : List (Addr × List V)) : ps.map pA = (List.range ps.length).map fun i => V.ref (atP ps i) := by
  refine List.ext_getElem? fun i => ?_
  rw [List.getElem?_map, List.getElem?_map]
  by_cases h : i < ps.length
  · rw [List.getElem?_range h, List.getElem?_eq_getElem h]
    show some (V.ref _) = some (V.ref (atP ps i))
    unfold atP
    rw [List.getElem?_eq_getElem h]
  · rw [List.getElem?_eq_none (by omega), List.getElem?_eq_none (by rw [List.length_range]; omega)]
    rfl
theorem flat_len {ps : List (Addr × List V)} (h : ∀ p ∈ ps, p.2.length ≤ 16) : (ps.flatMap (·.2)).length ≤ 16 * ps.length := by
  induction ps with
  | nil => exact Nat.zero_le _
  | cons p ps ih =>
    have h1 := h p (List.mem_cons_self ..)
    have h2 := ih fun q hq => h q (List.mem_cons_of_mem _ hq)
    rw [List.flatMap_cons, List.length_append, List.length_cons]
    omega
/-! ### joined -/
def JoinC (CM : Addr) (wd : Nat) (xs : List V) (ds : List PyData) (H : Hp) (Q : VK) (E : XK) : Prop :=
  (∀ (i : Nat) (v : V) (d : PyData), xs[i]? = some v → ds[i]? = some d → mapD wd d = false → (∀ e ∈ ds.take i, mapD wd e = true) → ∀ H', Same H H' → Flies CM v E H') ∧
  ((∀ e ∈ ds, mapD wd e = true) → ∀ (r : Addr) (H' : Hp), Same H H' → Dv (fun _ => True) H' (.ref r) (.tuple (joinD ds)) → ((joinD ds).length ≤ 16 → Q (.ref r) H') ∧ (¬ (joinD ds).length ≤ 16 → Flies CM (.ref r) E H'))
theorem JoinC.same {CM : Addr} {wd : Nat} {xs : List V} {ds : List PyData} {H H1 : Hp} {Q : VK} {E : XK} (h : JoinC CM wd xs ds H Q E) (s : Same H H1) : JoinC CM wd xs ds H1 Q E :=
  ⟨fun i v d e1 e2 e3 e4 H' s' => h.1 i v d e1 e2 e3 e4 H' (s.trans s'), fun hm r H' s' => h.2 hm r H' (s.trans s')⟩
def spJoin (CW CM : Addr) : Sp := fun vs H Q E => ∃ (N M : Addr → Prop) (x : V) (dx : PyData) (t : Addr) (xs : List V) (ds : List PyData), vs = [x, .ref t] ∧ H t = some (.tup xs) ∧ Dv N H x dx ∧ DvAll M H xs ds ∧ xs.length ≤ 100 ∧
  (widthD dx = false → Flies CW x E H) ∧ (∀ wd : Nat, dx = .int (wd : Int) → 1 ≤ wd → wd ≤ 16 → JoinC CM wd xs ds H Q E)
theorem scJoin : FnScope ["width", "maps", "given", "result", "masks", "mask"] ["width", "maps"] (defScope sJoined) := ⟨rfl, rfl, rfl, by decide +kernel, rfl, by decide +kernel, by decide +kernel⟩
/-- [y for m in t for y in m], t a tuple of tuples -/
theorem lc2_tt {K : PySem.W.Frag} {a : Addr} {ps : List (Addr × List V)} {x0 x1 x2 x3 : Option V} {H1 : Hp} {D : Addr} {Qd : Hp → Prop} (ha : H1 a = some (.tup (ps.map pA))) (hp : ∀ p ∈ ps, H1 p.1 = some (.tup p.2)) (hD : H1 D = none) (hsz : ∀ i, i ≤ ps.length → ((ps.take i).flatMap (·.2)).length < sizeLine)
    (hd : ∀ H', (∀ c u, c ≠ D → H1 c = some u → H' c = some u) → H' D = some (.lst (ps.flatMap (·.2))) → Qd H') :
    ∃ W : Nat → Nat → Hp → Prop, (∃ m, W 0 m (upd H1 D (.lst []))) ∧ ∀ i m H, W i m H →
      ((Itt K a).stop i H ∧ Qd H) ∨ ((Itt K a).go i H ∧ ∃ Nx : Hp → Prop, (∀ H', Nx H' → ∃ m', m' < m ∧ W (i + 1) m' H') ∧ ∀ x H', (Itt K a).yld i H x H' → gName 4 x (wipe [x0, x1, x2, x3, none, none] [4, 5]) H' fun σ2 H2 => wipe σ2 [4, 5] = wipe [x0, x1, x2, x3, none, none] [4, 5] ∧ tYes σ2 H2 fun b H3 =>
        if b = true then iTup K (tVar 4) σ2 H3 fun J1 H4 => ∃ W1 : Nat → Nat → Hp → Prop, (∃ m, W1 0 m H4) ∧ ∀ j k H, W1 j k H →
          (J1.stop j H ∧ Nx H) ∨ (J1.go j H ∧ ∃ Nx1 : Hp → Prop, (∀ H', Nx1 H' → ∃ k', k' < k ∧ W1 (j + 1) k' H') ∧ ∀ x H', J1.yld j H x H' → gName 5 x (wipe σ2 [5]) H' fun σ3 H5 => wipe σ3 [5] = wipe σ2 [5] ∧ tYes σ3 H5 fun b H6 =>
            if b = true then tVar 5 σ3 H6 fun y H7 => ∃ acc, H7 D = some (.lst acc) ∧ acc.length < sizeLine ∧ Nx1 (upd H7 D (.lst (acc ++ [y]))) else Nx1 H6)
        else Nx H3) := by
  have naD : a ≠ D := ne_of_none ha hD
  refine ⟨fun i m H => m = ps.length - i ∧ i ≤ ps.length ∧ (∀ c u, c ≠ D → H1 c = some u → H c = some u) ∧ H D = some (.lst ((ps.take i).flatMap (·.2))), ⟨ps.length, by simp, Nat.zero_le _, fun c u n e => (upd_ne n).trans e, upd_same⟩, ?_⟩
  rintro i m H ⟨rfl, hi, k, kD⟩
  have q : SqT K H a (ps.map pA) := SqT.of (k _ _ naD ha)
  by_cases hlt : i < ps.length
  · refine .inr ⟨⟨_, pA ps[i], q, by simp [hlt]⟩, fun H => i + 1 ≤ ps.length ∧ (∀ c u, c ≠ D → H1 c = some u → H c = some u) ∧ H D = some (.lst ((ps.take (i + 1)).flatMap (·.2))), fun H' p' => ⟨ps.length - (i + 1), by omega, rfl, p'⟩, fun x H' y => ?_⟩
    obtain ⟨e, y⟩ := y
    subst e
    have ex : x = pA ps[i] := by
      have z := y _ q
      rw [List.getElem?_map, List.getElem?_eq_getElem hlt] at z
      exact (Option.some.inj z).symm
    subst ex
    have hpi := hp ps[i] (List.getElem_mem hlt)
    have npD : ps[i].1 ≠ D := ne_of_none hpi hD
    have tk : (ps.take (i + 1)).flatMap (·.2) = (ps.take i).flatMap (·.2) ++ ps[i].2 := by
      rw [List.take_add_one, List.getElem?_eq_getElem hlt, List.flatMap_append]
      simp
    have sz := hsz (i + 1) hlt
    rw [tk, List.length_append] at sz
    refine ⟨rfl, yes (iteT ?_)⟩
    refine ⟨_, rfl, ps[i].1, rfl, ⟨_, SqT.of (k _ _ npD hpi)⟩, ?_⟩
    refine ⟨fun j l H => l = ps[i].2.length - j ∧ j ≤ ps[i].2.length ∧ (∀ c u, c ≠ D → H1 c = some u → H c = some u) ∧ H D = some (.lst ((ps.take i).flatMap (·.2) ++ ps[i].2.take j)), ⟨ps[i].2.length, by simp, Nat.zero_le _, k, by rw [List.take_zero, List.append_nil]; exact kD⟩, ?_⟩
    rintro j l H2 ⟨rfl, hj, k2, k2D⟩
    have q2 : SqT K H2 ps[i].1 ps[i].2 := SqT.of (k2 _ _ npD hpi)
    by_cases hjt : j < ps[i].2.length
    · refine .inr ⟨⟨_, ps[i].2[j], q2, by simp [hjt]⟩, fun H => j + 1 ≤ ps[i].2.length ∧ (∀ c u, c ≠ D → H1 c = some u → H c = some u) ∧ H D = some (.lst ((ps.take i).flatMap (·.2) ++ ps[i].2.take (j + 1))), fun H' p' => ⟨ps[i].2.length - (j + 1), by omega, rfl, p'⟩, fun x H' y => ?_⟩
      obtain ⟨e, y⟩ := y
      subst e
      have z := y _ q2
      refine ⟨rfl, yes (iteT ⟨_, rfl, _, k2D, ?_, hjt, fun c u n e => (upd_ne n).trans (k2 c u n e), ?_⟩)⟩
      · rw [List.length_append, List.length_take]
        omega
      · rw [upd_same, List.take_add_one, z, List.append_assoc]
        rfl
    · have e : j = ps[i].2.length := by omega
      subst e
      rw [List.take_length] at k2D
      exact .inl ⟨⟨_, q2, Nat.le_refl _⟩, hlt, k2, by rw [tk]; exact k2D⟩
  · have e : i = ps.length := by omega
    subst e
    rw [List.take_length] at kD
    exact .inl ⟨⟨_, q, by rw [List.length_map]; exact Nat.le_refl _⟩, hd H k kD⟩
section
variable {P : Program} {w : World} {K : PySem.W.Frag} {mg : Str → Option Value} {base : Heap}
theorem body_join {f f1 f2 f3 f4 f5 f6 CB CW CM CA e0 e2 e3 e5 : Addr} {fd1 fd2 fd3 fd4 fd5 fd6 fde0 fde2 fde3 fde5 : FuncData} (EX : Exc K mg CB CW CM CA e0 e2 e3 e5 fde0 fde2 fde3 fde5) (A1 : At K mg "is_int" sIsInt ["value"] f1 fd1) (A2 : At K mg "is_address" sIsAddr ["width", "value"] f2 fd2)
    (A3 : At K mg "are_addresses" sAreAddrs ["width", "value", "most"] f3 fd3) (A4 : At K mg "are_masks" sAreMasks ["width", "value"] f4 fd4) (A5 : At K mg "check_width" sCkWidth ["width"] f5 fd5) (A6 : At K mg "check_map" sCkMap ["width", "masks"] f6 fd6) (T : Txt K mg) {cdv : Value}
    (A : Around) (outer : List Env) (s : Shared) (H : Hp) (vs : List V) (Q : VK) (E : XK) (hr : Room 5 (A.deeper (PyProof.Rows.envOfC "joined" (defScope sJoined) s.heap.objs.size f cdv))) (h : spJoin CW CM vs H Q E) :
    ∃ t, PSs (cxOf (L2.CX P w) P w K mg base ["width", "maps", "given", "result", "masks", "mask"] "joined" (defScope sJoined) f cdv A outer s H E) (defBody sJoined) t ∧ t { nx := fun _ H' => Q .non H', rt := Q } (start ["width", "maps", "given", "result", "masks", "mask"] vs) H := by
  have GW : FnOk P w K mg base (L2.CX P w) 4 f5 fd5 ["width"] (spCkW CW) := ok_ckW EX A5 A1 T
  have GM : FnOk P w K mg base (L2.CX P w) 5 f6 fd6 ["width", "masks"] (spCkM CM) := ok_ckM EX A6 A1 A2 A3 A4 T
  obtain ⟨N, M, x, dx, t, xs, ds, rfl, ht, hx, hds, hl, kW, kJ⟩ := h
  have hr4 : Room 4 _ := hr.mono (by decide)
  refine ⟨_, pss_cons (ps_expr (pe_call (E := E) GW hr4 (by rfl) A5.mg A5.fn.kp A5.bi .nil (passes_call (takes_of rfl rfl rfl rfl) fun _ _ _ _ h => h) (pa_cons (pv 0) pa_nil)))
    (pss_cons (ps_for (passes_of rfl) rfl (pi_tup (pv 1)) (pg_name (i := 2) scJoin.nd rfl (Or.inl rfl)) (pss_one (ps_expr (pe_call (E := E) GM hr (by rfl) A6.mg A6.fn.kp A6.bi .nil (passes_call (takes_of rfl rfl rfl rfl) fun _ _ _ _ h => h) (pa_cons (pv 0) (pa_cons (pv 2) pa_nil))))))
    (pss_cons (ps_set (i := 3) scJoin.nd rfl (Or.inl rfl) (pe_callTy call_tuple_of (by rfl) T.tuple (by decide +kernel) (pa_cons (pe_lc2 (own := [("masks", 4), ("mask", 5)]) (vs1 := [5]) (g := gName 4) (tt := tYes) (g1 := gName 5) (tt1 := tYes) (wi1 := iTup K (tVar 4)) rfl scJoin.nd (pi_tup (pv 1))
        (blkOk_by (N := ["width", "maps", "given", "result", "masks", "mask"]) (sc := defScope sJoined) (by decide +kernel)) (by decide) (fun _ _ _ _ _ => pg_name (i := 4) scJoin.nd rfl (Or.inl rfl)) (fun _ _ _ _ _ => pts_nil) (fun _ _ _ _ _ => pi_tup (pv 4)) (fun _ _ _ _ _ => pg_name (i := 5) scJoin.nd rfl (Or.inl rfl)) (fun _ _ _ _ _ => pts_nil) (fun _ _ _ _ _ => pv 5)) pa_nil)))
    (pss_cons (ps_expr (pe_call (E := E) GM hr (by rfl) A6.mg A6.fn.kp A6.bi .nil (passes_call (takes_of rfl rfl rfl rfl) fun _ _ _ _ h => h) (pa_cons (pv 0) (pa_cons (pv 3) pa_nil))))
    (pss_one (ps_ret (pv 3)))))), ?_⟩
  refine ⟨_, rfl, N, x, dx, rfl, hx, fun hw => ?_, kW⟩
  cases hx with
  | int i =>
    have hi : 1 ≤ i ∧ i ≤ 16 := of_decide_eq_true hw
    obtain ⟨wd, rfl⟩ : ∃ wd : Nat, i = (wd : Int) := ⟨i.toNat, by omega⟩
    have w1 : 1 ≤ wd := by omega
    have w16 : wd ≤ 16 := by omega
    obtain ⟨kB, kG⟩ := kJ wd rfl w1 w16
    refine ⟨_, rfl, t, rfl, ⟨_, SqT.of ht⟩, for_tup (K := K) (a := t) (xs := xs) (fun i σ H' => ∃ t2 : Option V, σ = [some (.int (wd : Int)), some (.ref t), t2, none, none, none] ∧ Same H H' ∧ ∀ e ∈ ds.take i, mapD wd e = true) ⟨_, rfl, Same.refl H, fun e he => by rw [List.take_zero] at he; cases he⟩ ?_ ?_ ?_⟩
    · rintro i σ H1 _ ⟨t2, rfl, s1, _⟩
      exact SqT.of (s1 _ _ ht)
    · rintro i y σ H1 hi ⟨t2, rfl, s1, hm⟩
      obtain ⟨d, ed, hd⟩ := hds.at hi
      refine ⟨_, rfl, _, rfl, wd, _, y, d, rfl, by omega, hd.same s1, fun e H2 s2 => ?_, fun e H2 s2 => kB i y d hi ed e hm H2 (s1.trans s2)⟩
      refine ⟨_, rfl, s1.trans s2, fun z hz => ?_⟩
      rw [List.take_add_one, ed] at hz
      rcases List.mem_append.mp hz with hz | hz
      · exact hm z hz
      · rw [show z = d by simpa using hz]
        exact e
    · rintro σ H1 ⟨t2, rfl, s1, hm⟩
      rw [hds.len, List.take_length] at hm
      have ht1 := s1 _ _ ht
      have hds1 := hds.same s1
      obtain ⟨ps, ex, hps, hfl⟩ := tups_of hds1 hm
      have lp : ps.length ≤ 100 := by
        rw [ex, List.length_map] at hl
        exact hl
      have big : 1600 < sizeLine := by decide
      refine ⟨_, rfl, t, rfl, ⟨_, SqT.of ht1⟩, fun D hD => ?_⟩
      refine lc2_tt (K := K) (a := t) (ps := ps) (by rw [ht1, ex]) (fun p hp => (hps p hp).2.1) hD (fun i hi => ?_) fun H2 k2 k2D => ?_
      · have := flat_len (ps := ps.take i) fun p hp => (hps p (List.mem_of_mem_take hp)).2.2
        rw [List.length_take] at this
        omega
      · refine ⟨D, _, rfl, .inl ⟨SqL.of k2D, fun r hr => ?_⟩⟩
        have k3 : ∀ c u, c ≠ D → H1 c = some u → (upd H2 r (.tup (ps.flatMap (·.2)))) c = some u := fun c u n e => new_at (k2 c u n e) hr
        have s3 : Same H1 (upd H2 r (.tup (ps.flatMap (·.2)))) := fun c u e => k3 c u (ne_of_none e hD) e
        have dr : Dv (fun _ => True) (upd H2 r (.tup (ps.flatMap (·.2)))) (.ref r) (.tuple (joinD ds)) := .tup trivial upd_same ((hfl.to fun _ _ _ _ => trivial).same s3)
        generalize (upd H2 r (.tup (ps.flatMap (·.2)))) = H3 at s3 dr ⊢
        refine ⟨_, rfl, _, rfl, wd, _, _, _, rfl, by omega, dr, fun e H4 s4 => ?_, fun e H4 s4 => ?_⟩
        · rw [join_map hm] at e
          exact ⟨_, rfl, (kG hm r H4 ((s1.trans s3).trans s4) (dr.same s4)).1 (of_decide_eq_true e)⟩
        · rw [join_map hm] at e
          exact (kG hm r H4 ((s1.trans s3).trans s4) (dr.same s4)).2 (of_decide_eq_false e)
  | bl x => cases hw
  | non => cases hw
  | str x => cases hw
  | lst _ _ _ _ => cases hw
  | tup _ _ _ => cases hw
  | dic _ _ _ => cases hw
end
end X1
set_option Elab.async false
set_option maxRecDepth 100000
set_option maxHeartbeats 8000000
set_option pp.maxSteps 600
namespace X1
open PySem L2
open G (Dv DvAll DvKv Wf WfA Keeps spInit ClsFn FunD KxC Kept Flies catV)
structure AtV (K : PySem.W.Frag) (mg : Str → Option Value) (f : Addr) (fd : FuncData) : Prop where
  fn : Fun K "joined" "joined" sJoined f fd
  mg : mg "joined" = some (.ref f)
theorem bind_any {kV doc pm cdv ct : Value} {an : Option Addr} (u : Value) : ∀ (rest : List Value), rest.length ≤ 8 →
    bindArgs (PySem.W.fnOf "joined" "joined" (defArgs sJoined) (defBody sJoined) (defScope sJoined) .none kV doc pm an cdv ct) ⟨u :: rest, []⟩ = (newTuple rest >>= fun t => pure [(Str.ofString "width", u), (Str.ofString "maps", t)])
  | [], _ => rfl
  | [a0], _ => rfl
  | [a0, a1], _ => rfl
  | [a0, a1, a2], _ => rfl
  | [a0, a1, a2, a3], _ => rfl
  | [a0, a1, a2, a3, a4], _ => rfl
  | [a0, a1, a2, a3, a4, a5], _ => rfl
  | [a0, a1, a2, a3, a4, a5, a6], _ => rfl
  | [a0, a1, a2, a3, a4, a5, a6, a7], _ => rfl
  | _ :: _ :: _ :: _ :: _ :: _ :: _ :: _ :: _ :: r, h => absurd h (by simp only [List.length_cons]; omega)
section
variable {P : Program} {w : World} {K : PySem.W.Frag} {mg : Str → Option Value} {base : Heap}
def spJV (CW CM : Addr) : Sp := fun vs H Q E => ∃ (N M : Addr → Prop) (x : V) (dx : PyData) (xs : List V) (ds : List PyData), vs = x :: xs ∧ Dv N H x dx ∧ DvAll M H xs ds ∧ xs.length ≤ 8 ∧
  (widthD dx = false → ∀ H', Same H H' → Flies CW x E H') ∧ (∀ wd : Nat, dx = .int (wd : Int) → 1 ≤ wd → wd ≤ 16 → JoinC CM wd xs ds H Q E)
theorem ok_joined {f f1 f2 f3 f4 f5 f6 CB CW CM CA e0 e2 e3 e5 : Addr} {fd fd1 fd2 fd3 fd4 fd5 fd6 fde0 fde2 fde3 fde5 : FuncData} (EX : Exc K mg CB CW CM CA e0 e2 e3 e5 fde0 fde2 fde3 fde5) (A0 : AtV K mg f fd) (A1 : At K mg "is_int" sIsInt ["value"] f1 fd1) (A2 : At K mg "is_address" sIsAddr ["width", "value"] f2 fd2)
    (A3 : At K mg "are_addresses" sAreAddrs ["width", "value", "most"] f3 fd3) (A4 : At K mg "are_masks" sAreMasks ["width", "value"] f4 fd4) (A5 : At K mg "check_width" sCkWidth ["width"] f5 fd5) (A6 : At K mg "check_map" sCkMap ["width", "masks"] f6 fd6) (T : Txt K mg) : FnR P w K mg base (L2.CX P w) 6 f (spJV CW CM) := by
  obtain ⟨oc, od, kV, doc, pm, an, cdv, ct, osl, efd, lk, hcd⟩ := A0.fn.ex
  subst efd
  have F := fn_ofV (CX := L2.CX P w) (P := P) (w := w) (mg := mg) (base := base) (k := 5) (nmax := 8) (sp := spJoin CW CM) lk hcd scJoin (by decide) (fun u rest h => bind_any u rest h) G.cx_new (fun A outer s H vs Q E hr h => body_join EX A1 A2 A3 A4 A5 A6 T A outer s H vs Q E hr h)
  refine F.imp fun vs H Q E h => ?_
  obtain ⟨N, M, x, dx, xs, ds, rfl, hx, hds, hl, kW, kJ⟩ := h
  refine ⟨x, xs, rfl, hl, fun p hp => ?_⟩
  have s1 : Same H (upd H p (.tup xs)) := keep_new (Same.refl _) hp
  exact ⟨N, M, x, dx, p, xs, ds, rfl, upd_same, hx.same s1, hds.same s1, by omega, fun e => kW e _ s1, fun wd e h1 h2 => (kJ wd e h1 h2).same s1⟩
end
end X1
set_option Elab.async false
set_option maxRecDepth 100000
set_option maxHeartbeats 8000000
set_option pp.maxSteps 600
namespace X1
open PySem L2
open G (Dv DvAll DvKv Wf WfA Keeps spInit ClsFn FunD KxC Kept Flies)
open LamX (GivesTo CodeO)
/-! ### what the law tells of a call -/
def dRet (d : PyData) : PyData := .tuple [.str "returned", d]
def dWid (d : PyData) : PyData := .tuple [.str "width", d]
def dMap (d : PyData) : PyData := .tuple [.str "map", d]
def dSpot (d : PyData) : PyData := .tuple [.str "spot", d]
theorem wf_ret {d : PyData} (h : Wf 290 50 30000 d) : Wf 298 58 40000 (dRet d) := by
  have a : Wf 290 50 100 (.str "returned") := (G.Wf.of (m := 100) (n := 2) (w := 100) (by decide +kernel)).mono (by decide) (by decide) (by decide)
  exact (G.Wf.tup (G.WfA.cons a (G.WfA.cons h (G.WfA.nil : WfA 290 50 0 [])))).mono (by decide) (by decide) (by decide)
theorem wf_wid {d : PyData} (h : Wf 290 50 30000 d) : Wf 298 58 40000 (dWid d) := by
  have a : Wf 290 50 100 (.str "width") := (G.Wf.of (m := 100) (n := 2) (w := 100) (by decide +kernel)).mono (by decide) (by decide) (by decide)
  exact (G.Wf.tup (G.WfA.cons a (G.WfA.cons h (G.WfA.nil : WfA 290 50 0 [])))).mono (by decide) (by decide) (by decide)
theorem wf_map {d : PyData} (h : Wf 290 50 30000 d) : Wf 298 58 40000 (dMap d) := by
  have a : Wf 290 50 100 (.str "map") := (G.Wf.of (m := 100) (n := 2) (w := 100) (by decide +kernel)).mono (by decide) (by decide) (by decide)
  exact (G.Wf.tup (G.WfA.cons a (G.WfA.cons h (G.WfA.nil : WfA 290 50 0 [])))).mono (by decide) (by decide) (by decide)
theorem wf_spot {d : PyData} (h : Wf 290 50 30000 d) : Wf 298 58 40000 (dSpot d) := by
  have a : Wf 290 50 100 (.str "spot") := (G.Wf.of (m := 100) (n := 2) (w := 100) (by decide +kernel)).mono (by decide) (by decide) (by decide)
  exact (G.Wf.tup (G.WfA.cons a (G.WfA.cons h (G.WfA.nil : WfA 290 50 0 [])))).mono (by decide) (by decide) (by decide)
/-! ### _law_told -/
def TTold (CW CM CA CD CN : Addr) : (XK → Hp → VK → Prop) → Hp → VK → Prop := fun tl H Q => ∀ Q' : VK, (∀ (v : V) (H' : Hp), (∀ H2, Same H' H2 → Q (.str "fine") H2) → Q' v H') → ∀ H1, Same H H1 →
  tl (fun cls d H' => ∃ (dd : Addr) (v : V), d = some dd ∧ H' dd = some (.xd [("value", v)]) ∧ ((∃ (dv : PyData) (N : Addr → Prop), Dv N H' v dv ∧ Wf 290 50 30000 dv ∧ ((cls = .ref CW ∧ ∀ H2, Same H' H2 → Q (.str (dWid dv).shown) H2) ∨ (cls = .ref CM ∧ ∀ H2, Same H' H2 → Q (.str (dMap dv).shown) H2) ∨ (cls = .ref CA ∧ ∀ H2, Same H' H2 → Q (.str (dSpot dv).shown) H2))) ∨
    ((cls = .ref CD ∨ cls = .ref CN) ∧ ∀ H2, Same H' H2 → Q (.str "fine") H2))) H1 Q'
structure More (K : PySem.W.Frag) (CW CM CA CD CN : Addr) : Prop where
  nDA : PySem.W.kitOne K (.ref CD) (.ref CA) = some false
  nNA : PySem.W.kitOne K (.ref CN) (.ref CA) = some false
  nND : PySem.W.kitOne K (.ref CN) (.ref CD) = some false
  zW : PySem.W.kitOne K (.type "NoneType") (.ref CW) = some false
  zM : PySem.W.kitOne K (.type "NoneType") (.ref CM) = some false
  zA : PySem.W.kitOne K (.type "NoneType") (.ref CA) = some false
theorem scTold : FnScope ["_law_ask", "_law_caught", "error"] ["_law_ask"] (defScope sTold) := ⟨rfl, rfl, rfl, by decide +kernel, rfl, by decide +kernel, by decide +kernel⟩
theorem told_gives {X : Cx} {CB CW CM CA CD CN e0 e2 e3 e5 e6 e7 : Addr} {fde0 fde2 fde3 fde5 fde0' fde6 fde7 : FuncData} (EX : Exc X.K X.mg CB CW CM CA e0 e2 e3 e5 fde0 fde2 fde3 fde5) (ED : VD.Exc X.K X.mg CB CD CW CM e0 e6 fde0' fde6) (EN : VN.Exc X.K X.mg CB CN CW CM e0 e7 fde0' fde7) (MO : More X.K CW CM CA CD CN) (T : Txt X.K X.mg) (hr : Room 1 X.A) (hgu : X.A.guards = some []) {g : Addr} {cdg : Value} {q : Str} :
    GivesTo X ["_law_ask", "_law_caught", "error"] "_law_told" (defScope sTold) g cdg (defBody sTold) "_law_ask" q (TTold CW CM CA CD CN) := by
  intro f c' s H Q tl act hc h
  have hr0 : Room 0 (X.A.deeper (PyProof.Rows.envOfC "_law_told" (defScope sTold) s.heap.objs.size g cdg)) := hr.deeper _
  have hg0 : (X.A.deeper (PyProof.Rows.envOfC "_law_told" (defScope sTold) s.heap.objs.size g cdg)).guards = some [] := hgu
  refine ⟨_, (pss_cons (ps_set (i := 1) scTold.nd rfl (Or.inl rfl) pe_non)
    (pss_cons (G.ps_try_keep (c := .ref CB) (i := 2)
        (tb := fun W D σ H => ∃ Ech : XK, (∀ cls d σ' H', Ech cls d H' → σ'.length = 3 → W cls d σ' H') ∧ σ[0]? = some (some (.ref f)) ∧ H c' = some (CodeO c' q) ∧ tl Ech H (fun _ H' => D.nx σ H'))
        rfl rfl rfl scTold.nd rfl rfl ⟨rfl, by decide, .inl EX.gB⟩ L2.takes0 (fun W pn xe tk _ => ?_) (fun a oe cls d pn _ _ => pss_one (ps_set (i := 1) scTold.nd rfl (Or.inl rfl) (pv 2))))
    (pss_cons (ps_if (pt_val (pe_callB G.call_isx (by rfl) T.isinstance (by decide +kernel) (pa_cons (pv 1) (pa_cons (pe_glob (v := .ref CW) (by rfl) EX.gW rfl) pa_nil)))) (pss_one (ps_ret (pe_callB (G.call_repr_any (k := 0) hg0 hr0) (by rfl) T.repr (by decide +kernel) (pa_cons (pe_tup (pa_cons pe_str (pa_cons (G.pe_xk (pv 1)) pa_nil))) pa_nil)))) pss_nil)
    (pss_cons (ps_if (pt_val (pe_callB G.call_isx (by rfl) T.isinstance (by decide +kernel) (pa_cons (pv 1) (pa_cons (pe_glob (v := .ref CM) (by rfl) EX.gM rfl) pa_nil)))) (pss_one (ps_ret (pe_callB (G.call_repr_any (k := 0) hg0 hr0) (by rfl) T.repr (by decide +kernel) (pa_cons (pe_tup (pa_cons pe_str (pa_cons (G.pe_xk (pv 1)) pa_nil))) pa_nil)))) pss_nil)
    (pss_cons (ps_if (pt_val (pe_callB G.call_isx (by rfl) T.isinstance (by decide +kernel) (pa_cons (pv 1) (pa_cons (pe_glob (v := .ref CA) (by rfl) EX.gA rfl) pa_nil)))) (pss_one (ps_ret (pe_callB (G.call_repr_any (k := 0) hg0 hr0) (by rfl) T.repr (by decide +kernel) (pa_cons (pe_tup (pa_cons pe_str (pa_cons (G.pe_xk (pv 1)) pa_nil))) pa_nil)))) pss_nil)
    (pss_one (ps_ret (pe_ifExp (PW.pt (pw_or (pt_cmpR op_isN (pv 1) pe_non (nomark _)) (pw_or1 (pt_val (pe_callB G.call_isxT (by rfl) T.isinstance (by decide +kernel) (pa_cons (pv 1) (pa_cons (pe_tup (pa_cons (pe_glob (v := .ref CD) (by rfl) ED.gD rfl) (pa_cons (pe_glob (v := .ref CN) (by rfl) EN.gD rfl) pa_nil))) pa_nil))))))) pe_str pe_str)))))))), ?_⟩
  · refine ⟨fun pins s' σ H' D I h' => ?_⟩
    obtain ⟨Ech, hW, h1, h2, h3⟩ := h'
    exact (pss_one (ps_expr (act _ pn xe Ech _ _ (G.takes_len tk) fun cls d σ' H' e l => hW cls d σ' H' e l))).run pins s' σ H' D I ⟨h1, h2, h3⟩
  · refine ⟨_, fun cls d σ' H' e l => ?_, rfl, hc, h _ (fun v H' k => ?_) _ (Same.refl H)⟩
    · obtain ⟨dd, v, rfl, hdd, e⟩ := e
      match σ', l with
      | [x0, x1, x2], _ =>
        rcases e with ⟨dv, N, hdv, wdv, ⟨rfl, k⟩ | ⟨rfl, k⟩ | ⟨rfl, k⟩⟩ | ⟨⟨rfl⟩ | ⟨rfl⟩, k⟩
        · refine ⟨true, EX.eW, fun _ a ha => ?_, fun z => nomatch z⟩
          refine ⟨_, rfl, ?_⟩
          have nda : dd ≠ a := ne_of_none hdd ha
          have kp : Kept X.K (upd H' a (G.exk (.ref CW) (some dd) a)) a CW [("value", v)] := ⟨dd, upd_same, (upd_ne nda).trans hdd, EX.kW⟩
          have sa : Same H' (upd H' a (G.exk (.ref CW) (some dd) a)) := keep_new (Same.refl _) ha
          refine ⟨_, rfl, .ref a, .ref CW, .ref CW, true, rfl, .own CW, .inl ⟨a, CW, _, rfl, kp, G.kit_self⟩, _, rfl, iteT ?_⟩
          obtain ⟨g1, g2, g3⟩ := (wf_wid wdv).shows (by decide) (by decide) (by decide)
          refine ⟨_, rfl, a, CW, _, v, rfl, kp, EX.noW, rfl, by show 2 ≤ sizeLine; decide, fun e he => ?_⟩
          have s2 : Same H' (upd (upd H' a (G.exk (.ref CW) (some dd) a)) e (.tup [V.str "width", v])) := keep_new sa he
          have dv2 : Dv (fun c => H' c ≠ none) (upd (upd H' a (G.exk (.ref CW) (some dd) a)) e (.tup [V.str "width", v])) v dv := (hdv.to fun c u e _ => by rw [e]; exact fun z => nomatch z).same s2
          exact ⟨fun _ => True, _, dWid dv, rfl, .tup trivial upd_same (.cons (.str _) (.cons (dv2.to fun _ _ _ _ => trivial) .nil)), g1, g2, g3, k _ s2⟩
        · refine ⟨true, EX.eM, fun _ a ha => ?_, fun z => nomatch z⟩
          refine ⟨_, rfl, ?_⟩
          have nda : dd ≠ a := ne_of_none hdd ha
          have kp : Kept X.K (upd H' a (G.exk (.ref CM) (some dd) a)) a CM [("value", v)] := ⟨dd, upd_same, (upd_ne nda).trans hdd, EX.kM⟩
          have sa : Same H' (upd H' a (G.exk (.ref CM) (some dd) a)) := keep_new (Same.refl _) ha
          refine ⟨_, rfl, .ref a, .ref CW, .ref CW, false, rfl, .own CW, .inl ⟨a, CM, _, rfl, kp, EX.nMW⟩, _, rfl, iteF ?_⟩
          refine ⟨_, rfl, .ref a, .ref CM, .ref CM, true, rfl, .own CM, .inl ⟨a, CM, _, rfl, kp, G.kit_self⟩, _, rfl, iteT ?_⟩
          obtain ⟨g1, g2, g3⟩ := (wf_map wdv).shows (by decide) (by decide) (by decide)
          refine ⟨_, rfl, a, CM, _, v, rfl, kp, EX.noM, rfl, by show 2 ≤ sizeLine; decide, fun e he => ?_⟩
          have s2 : Same H' (upd (upd H' a (G.exk (.ref CM) (some dd) a)) e (.tup [V.str "map", v])) := keep_new sa he
          have dv2 : Dv (fun c => H' c ≠ none) (upd (upd H' a (G.exk (.ref CM) (some dd) a)) e (.tup [V.str "map", v])) v dv := (hdv.to fun c u e _ => by rw [e]; exact fun z => nomatch z).same s2
          exact ⟨fun _ => True, _, dMap dv, rfl, .tup trivial upd_same (.cons (.str _) (.cons (dv2.to fun _ _ _ _ => trivial) .nil)), g1, g2, g3, k _ s2⟩
        · refine ⟨true, EX.eA, fun _ a ha => ?_, fun z => nomatch z⟩
          refine ⟨_, rfl, ?_⟩
          have nda : dd ≠ a := ne_of_none hdd ha
          have kp : Kept X.K (upd H' a (G.exk (.ref CA) (some dd) a)) a CA [("value", v)] := ⟨dd, upd_same, (upd_ne nda).trans hdd, EX.kA⟩
          have sa : Same H' (upd H' a (G.exk (.ref CA) (some dd) a)) := keep_new (Same.refl _) ha
          refine ⟨_, rfl, .ref a, .ref CW, .ref CW, false, rfl, .own CW, .inl ⟨a, CA, _, rfl, kp, EX.nAW⟩, _, rfl, iteF ?_⟩
          refine ⟨_, rfl, .ref a, .ref CM, .ref CM, false, rfl, .own CM, .inl ⟨a, CA, _, rfl, kp, EX.nAM⟩, _, rfl, iteF ?_⟩
          refine ⟨_, rfl, .ref a, .ref CA, .ref CA, true, rfl, .own CA, .inl ⟨a, CA, _, rfl, kp, G.kit_self⟩, _, rfl, iteT ?_⟩
          obtain ⟨g1, g2, g3⟩ := (wf_spot wdv).shows (by decide) (by decide) (by decide)
          refine ⟨_, rfl, a, CA, _, v, rfl, kp, EX.noA, rfl, by show 2 ≤ sizeLine; decide, fun e he => ?_⟩
          have s2 : Same H' (upd (upd H' a (G.exk (.ref CA) (some dd) a)) e (.tup [V.str "spot", v])) := keep_new sa he
          have dv2 : Dv (fun c => H' c ≠ none) (upd (upd H' a (G.exk (.ref CA) (some dd) a)) e (.tup [V.str "spot", v])) v dv := (hdv.to fun c u e _ => by rw [e]; exact fun z => nomatch z).same s2
          exact ⟨fun _ => True, _, dSpot dv, rfl, .tup trivial upd_same (.cons (.str _) (.cons (dv2.to fun _ _ _ _ => trivial) .nil)), g1, g2, g3, k _ s2⟩
        · refine ⟨true, ED.te, fun _ a ha => ?_, fun z => nomatch z⟩
          refine ⟨_, rfl, ?_⟩
          have nda : dd ≠ a := ne_of_none hdd ha
          have kp : Kept X.K (upd H' a (G.exk (.ref CD) (some dd) a)) a CD [("value", v)] := ⟨dd, upd_same, (upd_ne nda).trans hdd, ED.kx⟩
          have sa : Same H' (upd H' a (G.exk (.ref CD) (some dd) a)) := keep_new (Same.refl _) ha
          refine ⟨_, rfl, .ref a, .ref CW, .ref CW, false, rfl, .own CW, .inl ⟨a, CD, _, rfl, kp, ED.nW⟩, _, rfl, iteF ?_⟩
          refine ⟨_, rfl, .ref a, .ref CM, .ref CM, false, rfl, .own CM, .inl ⟨a, CD, _, rfl, kp, ED.nM⟩, _, rfl, iteF ?_⟩
          refine ⟨_, rfl, .ref a, .ref CA, .ref CA, false, rfl, .own CA, .inl ⟨a, CD, _, rfl, kp, MO.nDA⟩, _, rfl, iteF ?_⟩
          refine ⟨_, rfl, rfl, _, rfl, iteFb (decide_eq_false fun z => by cases z) ?_⟩
          refine ⟨_, rfl, by show 2 ≤ sizeLine; decide, fun e he => ?_⟩
          have nae : a ≠ e := ne_of_none (show (upd H' a (G.exk (.ref CD) (some dd) a)) a = some _ from upd_same) he
          have kp2 : Kept X.K (upd (upd H' a (G.exk (.ref CD) (some dd) a)) e (.tup [V.ref CD, V.ref CN])) a CD [("value", v)] := ⟨dd, (upd_ne nae).trans upd_same, (new_at ((upd_ne nda).trans hdd) he), ED.kx⟩
          exact ⟨a, CD, e, _, _, [.ref CD, .ref CN], true, rfl, upd_same, .cons (.own CD) (.cons (.own CN) .nil), kp2, kitAny_cons G.kit_self (fun z => nomatch z) (fun _ => rfl), _, rfl, iteT (k _ (keep_new sa he))⟩
        · refine ⟨true, EN.te, fun _ a ha => ?_, fun z => nomatch z⟩
          refine ⟨_, rfl, ?_⟩
          have nda : dd ≠ a := ne_of_none hdd ha
          have kp : Kept X.K (upd H' a (G.exk (.ref CN) (some dd) a)) a CN [("value", v)] := ⟨dd, upd_same, (upd_ne nda).trans hdd, EN.kx⟩
          have sa : Same H' (upd H' a (G.exk (.ref CN) (some dd) a)) := keep_new (Same.refl _) ha
          refine ⟨_, rfl, .ref a, .ref CW, .ref CW, false, rfl, .own CW, .inl ⟨a, CN, _, rfl, kp, EN.nW⟩, _, rfl, iteF ?_⟩
          refine ⟨_, rfl, .ref a, .ref CM, .ref CM, false, rfl, .own CM, .inl ⟨a, CN, _, rfl, kp, EN.nM⟩, _, rfl, iteF ?_⟩
          refine ⟨_, rfl, .ref a, .ref CA, .ref CA, false, rfl, .own CA, .inl ⟨a, CN, _, rfl, kp, MO.nNA⟩, _, rfl, iteF ?_⟩
          refine ⟨_, rfl, rfl, _, rfl, iteFb (decide_eq_false fun z => by cases z) ?_⟩
          refine ⟨_, rfl, by show 2 ≤ sizeLine; decide, fun e he => ?_⟩
          have nae : a ≠ e := ne_of_none (show (upd H' a (G.exk (.ref CN) (some dd) a)) a = some _ from upd_same) he
          have kp2 : Kept X.K (upd (upd H' a (G.exk (.ref CN) (some dd) a)) e (.tup [V.ref CD, V.ref CN])) a CN [("value", v)] := ⟨dd, (upd_ne nae).trans upd_same, (new_at ((upd_ne nda).trans hdd) he), EN.kx⟩
          exact ⟨a, CN, e, _, _, [.ref CD, .ref CN], true, rfl, upd_same, .cons (.own CD) (.cons (.own CN) .nil), kp2, kitAny_cons MO.nND (fun _ => kitAny_cons G.kit_self (fun z => nomatch z) (fun _ => rfl)) (fun z => nomatch z), _, rfl, iteT (k _ (keep_new sa he))⟩
    · refine ⟨_, rfl, .non, .ref CW, .ref CW, false, rfl, .own CW, .inr ⟨.type "NoneType", .base .non, MO.zW⟩, _, rfl, iteF ?_⟩
      refine ⟨_, rfl, .non, .ref CM, .ref CM, false, rfl, .own CM, .inr ⟨.type "NoneType", .base .non, MO.zM⟩, _, rfl, iteF ?_⟩
      refine ⟨_, rfl, .non, .ref CA, .ref CA, false, rfl, .own CA, .inr ⟨.type "NoneType", .base .non, MO.zA⟩, _, rfl, iteF ?_⟩
      exact ⟨_, rfl, rfl, _, rfl, iteTb (decide_eq_true rfl) (iteT (k H' (Same.refl H')))⟩
end X1
set_option Elab.async false
set_option maxRecDepth 100000
set_option maxHeartbeats 8000000
set_option pp.maxSteps 600
namespace X1
open PySem L2
open G (Dv DvAll DvKv Wf WfA Keeps spInit ClsFn FunD KxC Kept Flies)
section
variable {P : Program} {w : World} {K : PySem.W.Frag} {mg : Str → Option Value} {base : Heap}
theorem ints_dv {N : Addr → Prop} {H : Hp} : ∀ ns : List Int, DvAll N H (ns.map V.int) (ns.map PyData.int)
  | [] => .nil
  | n :: ns => .cons (.int n) (ints_dv ns)
theorem ints_wf : ∀ (ns : List Int), (∀ x ∈ ns, 0 ≤ x ∧ x < 65536) → WfA 100 0 (18 * ns.length) (ns.map PyData.int)
  | [], _ => G.WfA.nil
  | n :: ns, h => by
    obtain ⟨h1, h2⟩ := h n (List.mem_cons_self ..)
    have a : Wf 17 0 17 (.int n) := (G.Wf.int (m := 16) (n := 0) (G.log_of_lt (by decide) (by show n.natAbs < 65536; omega))).mono (by decide) (Nat.le_refl _) (by decide)
    exact (G.WfA.cons (a.mono (by decide) (Nat.le_refl _) (Nat.le_refl _)) (ints_wf ns fun x hx => h x (List.mem_cons_of_mem _ hx))).mono (Nat.le_refl _) (Nat.le_refl _) (by rw [List.length_cons]; omega)
/-! ### _law_four -/
def spFour : Sp := fun vs H Q _ => ∃ (b : Addr) (n : Int) (o : HO), vs = [.ref b] ∧ H b = some o ∧ BoxO n o ∧ n ≤ 100000 ∧
  ∀ (r : Addr) (x v u s : V) (dx d du ds : PyData) (H' : Hp) (o' : HO), Sam b H H' → H' b = some o' → BoxO (n + 1000) o' → H' r = some (.tup [x, v, u, s]) → (∀ y e, (y, e) ∈ [(x, dx), (v, d), (u, du), (s, ds)] → Dv (fun a => a ≠ b) H' y e ∧ Wf 145 40 3000 e) → Q (.ref r) H'
theorem scFour : FnScope ["_law_box_here", "_law_size", "_law_plan_here", "_law_more", "_law_spot", "_law_way"] ["_law_box_here"] (defScope sFour) := ⟨rfl, rfl, rfl, by decide +kernel, rfl, by decide +kernel, by decide +kernel⟩
theorem ok_four {f f1 f2 f3 f4 f5 f6 : Addr} {fd fd1 fd2 fd3 fd4 fd5 fd6 : FuncData} (A0 : At K mg "_law_four" sFour ["_law_box_here"] f fd) (A1 : At K mg "_law_take" sTake ["_law_box_here", "_law_many"] f1 fd1) (A2 : At K mg "_law_of" sOf ["_law_box_here", "_law_some"] f2 fd2) (A3 : At K mg "_law_lot" sLot ["_law_box_here", "_law_size", "_law_most"] f3 fd3) (AL : At K mg "_law_plan" sPlan ["_law_box_here", "_law_size", "_law_many"] f4 fd4)
    (AA : At K mg "_law_any" sAny ["_law_box_here"] f5 fd5) (AB : At K mg "_law_bent" sBent ["_law_box_here", "_law_thing"] f6 fd6) (T : Txt K mg) : FnOk P w K mg base CX0 7 f fd ["_law_box_here"] spFour := by
  have GT1 : FnOk P w K mg base CX0 1 f1 fd1 ["_law_box_here", "_law_many"] spTake := ok_take A1
  have G2 : FnOk P w K mg base CX0 2 f2 fd2 ["_law_box_here", "_law_some"] spOf := ok_of A2 A1 T
  have GA : FnOk P w K mg base CX0 3 f5 fd5 ["_law_box_here"] (spAny 18) := ok_any AA A1 A2 T
  have GL : FnOk P w K mg base CX0 4 f4 fd4 ["_law_box_here", "_law_size", "_law_many"] spLot := ok_plan AL A1 A2 A3 T
  have GB : FnOk P w K mg base CX0 (5 + 1) f6 fd6 ["_law_box_here", "_law_thing"] (spBent 1) := ok_bent AB A1 A2 AA T 1
  refine A0.fn.ok scFour (fun vs H Q E h => ?_) (fun cdv A outer s H vs Q E hr h => ?_)
  · obtain ⟨b, n, o, rfl, _⟩ := h
    rfl
  · obtain ⟨b, n, o, rfl, hb, B, hn, k⟩ := h
    have hr1 : Room 1 _ := hr.mono (by decide)
    have hr2 : Room 2 _ := hr.mono (by decide)
    have hr3 : Room 3 _ := hr.mono (by decide)
    have hr4 : Room 4 _ := hr.mono (by decide)
    have hr6 : Room 6 _ := hr
    refine ⟨_, (pss_cons (ps_set (i := 1) scFour.nd rfl (Or.inl rfl) (pe_op op_add pe_int (pe_call GT1 hr1 (by rfl) A1.mg A1.fn.kp A1.bi .nil pass0 (pa_cons (pv 0) (pa_cons pe_int pa_nil)))))
      (pss_cons (ps_par3 (i := 2) (j := 3) (l := 4) (by rfl) scFour.nd rfl rfl rfl (by decide) (by decide) (by decide) rfl rfl rfl (pa_cons (pe_call GL hr4 (by rfl) AL.mg AL.fn.kp AL.bi .nil pass0 (pa_cons (pv 0) (pa_cons (pv 1) (pa_cons pe_int pa_nil)))) (pa_cons (pe_call GL hr4 (by rfl) AL.mg AL.fn.kp AL.bi .nil pass0 (pa_cons (pv 0) (pa_cons (pv 1) (pa_cons pe_int pa_nil)))) (pa_cons (pe_call GT1 hr1 (by rfl) A1.mg A1.fn.kp A1.bi .nil pass0 (pa_cons (pv 0) (pa_cons (pe_op op_shl pe_int (pv 1)) pa_nil))) pa_nil))) (by rfl))
      (pss_cons (ps_set (i := 5) scFour.nd rfl (Or.inl rfl) (pe_call GT1 hr1 (by rfl) A1.mg A1.fn.kp A1.bi .nil pass0 (pa_cons (pv 0) (pa_cons pe_int pa_nil))))
      (pss_cons (ps_if (pt_cmpR op_eq (pv 5) pe_int (nomark _)) (pss_one (ps_set (i := 1) scFour.nd rfl (Or.inl rfl) (pe_call G2 hr2 (by rfl) A2.mg A2.fn.kp A2.bi .nil pass0 (pa_cons (pv 0) (pa_cons (pe_lst (pa_cons pe_int (pa_cons pe_int (pa_cons pe_bl (pa_cons pe_non (pa_cons pe_str (pa_cons (pe_call GA hr3 (by rfl) AA.mg AA.fn.kp AA.bi .nil pass0 (pa_cons (pv 0) pa_nil)) pa_nil))))))) pa_nil))))) pss_nil)
      (pss_cons (ps_if (pt_cmpR op_in_seq (pv 5) (pe_tup (pa_cons pe_int (pa_cons pe_int pa_nil))) (by rfl)) (pss_one (ps_set (i := 2) scFour.nd rfl (Or.inl rfl) (pe_call G2 hr2 (by rfl) A2.mg A2.fn.kp A2.bi .nil pass0 (pa_cons (pv 0) (pa_cons (pe_lst (pa_cons (pe_call GB hr6 (by rfl) AB.mg AB.fn.kp AB.bi .nil pass0 (pa_cons (pv 0) (pa_cons (pv 2) pa_nil))) (pa_cons (pe_op op_repT (pe_tup (pa_cons pe_int pa_nil)) pe_int) (pa_cons (pe_call GA hr3 (by rfl) AA.mg AA.fn.kp AA.bi .nil pass0 (pa_cons (pv 0) pa_nil)) (pa_cons (pe_tup (pa_cons (pe_op op_shl pe_int pe_int) pa_nil)) pa_nil))))) pa_nil))))) pss_nil)
      (pss_cons (ps_if (pt_cmpR op_in_seq (pv 5) (pe_tup (pa_cons pe_int (pa_cons pe_int pa_nil))) (by rfl)) (pss_one (ps_set (i := 3) scFour.nd rfl (Or.inl rfl) (pe_call G2 hr2 (by rfl) A2.mg A2.fn.kp A2.bi .nil pass0 (pa_cons (pv 0) (pa_cons (pe_lst (pa_cons (pe_call GB hr6 (by rfl) AB.mg AB.fn.kp AB.bi .nil pass0 (pa_cons (pv 0) (pa_cons (pv 3) pa_nil))) (pa_cons (pe_op op_repT (pe_tup (pa_cons pe_int pa_nil)) pe_int) (pa_cons (pe_call GA hr3 (by rfl) AA.mg AA.fn.kp AA.bi .nil pass0 (pa_cons (pv 0) pa_nil)) (pa_cons (pe_callTy G.call_listS (by rfl) T.list (by decide +kernel) (pa_cons (pv 3) pa_nil)) pa_nil))))) pa_nil))))) pss_nil)
      (pss_cons (ps_if (pt_cmpR op_in_seq (pv 5) (pe_tup (pa_cons pe_int (pa_cons pe_int pa_nil))) (by rfl)) (pss_one (ps_set (i := 4) scFour.nd rfl (Or.inl rfl) (pe_call G2 hr2 (by rfl) A2.mg A2.fn.kp A2.bi .nil pass0 (pa_cons (pv 0) (pa_cons (pe_lst (pa_cons (pe_un un_neg pe_int) (pa_cons (pe_op op_shl pe_int pe_int) (pa_cons pe_bl (pa_cons pe_non (pa_cons pe_str (pa_cons (pe_call GA hr3 (by rfl) AA.mg AA.fn.kp AA.bi .nil pass0 (pa_cons (pv 0) pa_nil)) pa_nil))))))) pa_nil))))) pss_nil)
      (pss_one (ps_ret (pe_tup (pa_cons (pv 1) (pa_cons (pv 2) (pa_cons (pv 3) (pa_cons (pv 4) pa_nil)))))))))))))), ?_⟩
    have big : ∀ {x : Int}, x ≤ 70000 → x < 2 ^ 1000 := fun h => Int.lt_of_le_of_lt h (by decide +kernel)
    have e5 : ∀ {x y : Int}, x ≠ y → decide (V.int x = V.int y) = false := fun n => decide_eq_false fun z => n (V.int.inj z)
    refine ⟨_, rfl, b, _, 16, o, rfl, hb, B, by omega, by decide, big (by decide), fun v0 o1 v1 v2 B1 => ?_⟩
    obtain ⟨wd, hwd⟩ : ∃ wd : Nat, 1 + v0 = (wd : Int) := ⟨(1 + v0).toNat, by omega⟩
    refine ⟨_, _, rfl, rfl, ?_⟩
    have w1 : 1 ≤ wd := by omega
    have w16 : wd ≤ 16 := by omega
    show gName 1 (V.int (1 + v0)) _ _ _
    rw [hwd]
    have S1 : Sam b H (upd H b o1) := Sam.upd
    have hb1 : (upd H b o1) b = some o1 := upd_same
    generalize upd H b o1 = H1 at S1 hb1 ⊢
    refine ⟨_, rfl, _, rfl, b, _, wd, 5, o1, rfl, hb1, B1, by omega, by omega, by omega, by omega, by omega, fun p1 ns1 H2 o2 f1 S2 hb2 B2 hp1 in1 ln1 => ?_⟩
    have n1 : p1 ≠ b := (ne_of_none hb1 f1).symm
    refine ⟨_, rfl, _, rfl, b, _, wd, 5, o2, rfl, hb2, B2, by omega, by omega, by omega, by omega, by omega, fun p2 ns2 H3 o3 f2 S3 hb3 B3 hp2 in2 ln2 => ?_⟩
    have n2 : p2 ≠ b := (ne_of_none hb2 f2).symm
    have p2w := pw_le (sz := (wd : Int)) (by omega) (by omega)
    refine ⟨_, rfl, _, rfl, _, _, rfl, rfl, ⟨by omega, by omega, by decide⟩, b, _, _, o3, rfl, hb3, B3, by omega, by rw [Int.one_mul]; omega, big (by rw [Int.one_mul]; omega), fun sp o4 s0 s1 B4 => ⟨_, _, _, rfl, ?_⟩⟩
    rw [Int.one_mul] at s1
    have S4 : Sam b H (upd H3 b o4) := ((S1.trans S2).trans S3).trans Sam.upd
    have hb4 : (upd H3 b o4) b = some o4 := upd_same
    have hp14 : (upd H3 b o4) p1 = some (.tup (ns1.map V.int)) := (upd_ne n1).trans (S3 _ _ n1 hp1)
    have hp24 : (upd H3 b o4) p2 = some (.tup (ns2.map V.int)) := (upd_ne n2).trans hp2
    generalize upd H3 b o4 = H4 at S4 hb4 hp14 hp24 ⊢
    refine ⟨_, rfl, b, _, 9, o4, rfl, hb4, B4, by omega, by decide, big (by decide), fun wy o5 y0 y1 B5 => ?_⟩
    have S5 : Sam b H (upd H4 b o5) := S4.trans Sam.upd
    have hb5 : (upd H4 b o5) b = some o5 := upd_same
    have hp15 : (upd H4 b o5) p1 = some (.tup (ns1.map V.int)) := (upd_ne n1).trans hp14
    have hp25 : (upd H4 b o5) p2 = some (.tup (ns2.map V.int)) := (upd_ne n2).trans hp24
    generalize upd H4 b o5 = H5 at S5 hb5 hp15 hp25 ⊢
    have B5' : BoxO (n + 50) o5 := B5.mono (by omega)
    clear S1 S2 S3 S4 hb1 hb2 hb3 hb4 B1 B2 B3 B4 B5 hp14 hp24 f1 f2 hp1 hp2
    have wsp : Wf 145 40 3000 (.int sp) := ((G.Wf.int (m := 16) (n := 0) (G.log_of_lt (by decide) (by show sp.natAbs < 65536; omega))).mono (by decide) (Nat.zero_le _) (by decide) : Wf 145 40 3000 (.int sp))
    have wp1 : Wf 100 1 306 (.tuple (ns1.map PyData.int)) := (G.Wf.tup (ints_wf ns1 fun x hx => ⟨(in1 x hx).1, Int.lt_of_lt_of_le (in1 x hx).2 p2w.2⟩)).mono (Nat.le_refl _) (Nat.le_refl _) (by omega)
    have wp2 : Wf 100 1 306 (.tuple (ns2.map PyData.int)) := (G.Wf.tup (ints_wf ns2 fun x hx => ⟨(in2 x hx).1, Int.lt_of_lt_of_le (in2 x hx).2 p2w.2⟩)).mono (Nat.le_refl _) (Nat.le_refl _) (by omega)
    have wide : ∀ {d : PyData}, Wf 100 20 204 d → Wf 145 40 3000 d := fun h => h.mono (by decide) (by decide) (by decide)
    have cst : ∀ {d : PyData}, Wf 100 2 300 d → Wf 145 40 3000 d := fun h => h.mono (by decide) (by decide) (by decide)
    refine seqTail (fun σ' H' => ∃ (x : V) (dx : PyData) (o' : HO), σ' = [some (.ref b), some x, some (.ref p1), some (.ref p2), some (.int sp), some (.int wy)] ∧ H' b = some o' ∧ BoxO (n + 150) o' ∧ Sam b H H' ∧ H' p1 = some (.tup (ns1.map V.int)) ∧ H' p2 = some (.tup (ns2.map V.int)) ∧ Dv (fun a => a ≠ b) H' x dx ∧ Wf 145 40 3000 dx) ?_ (fun tl => ?_)
    case refine_2 =>
      refine ⟨_, rfl, rfl, _, rfl, ?_⟩
      by_cases hw0 : wy = 0
      case neg =>
        exact iteFb (e5 hw0) (tl _ _ ⟨.int (wd : Int), .int (wd : Int), o5, rfl, hb5, B5'.mono (by omega), S5, hp15, hp25, .int _, ((G.Wf.int (m := 16) (n := 0) (G.log_of_lt (by decide) (by show (wd : Int).natAbs < 65536; omega))).mono (by decide) (Nat.zero_le _) (by decide) : Wf 145 40 3000 (.int (wd : Int)))⟩)
      refine iteTb (decide_eq_true (by rw [hw0])) ?_
      refine ⟨_, rfl, _, rfl, b, _, o5, rfl, hb5, B5', by omega, fun v d H6 o6 S6 hb6 B6 hd wfd => ?_⟩
      refine ⟨by show 6 ≤ sizeLine; decide, fun l hl => ?_⟩
      have nlb : l ≠ b := (ne_of_none hb6 hl).symm
      have SL : Same H6 (upd H6 l (.lst [V.int 0, V.int 17, V.bl true, V.non, V.str "4", v])) := keep_new (Same.refl _) hl
      have al : DvAll (fun a => a ≠ b) H6 [V.int 0, V.int 17, V.bl true, V.non, V.str "4", v] [.int 0, .int 17, .bool true, .none, .str "4", d] := .cons (.int _) (.cons (.int _) (.cons (.bl _) (.cons .non (.cons (.str _) (.cons (hd.to fun _ _ _ n => n.1) .nil)))))
      have wl : ∀ y ∈ [PyData.int 0, .int 17, .bool true, .none, .str "4", d], Wf 145 40 3000 y := fun y hy => by
        simp only [List.mem_cons, List.not_mem_nil, or_false] at hy
        rcases hy with rfl | rfl | rfl | rfl | rfl | rfl
        · exact cst (G.Wf.of (m := 100) (n := 2) (w := 300) (by decide +kernel))
        · exact cst (G.Wf.of (m := 100) (n := 2) (w := 300) (by decide +kernel))
        · exact cst (G.Wf.of (m := 100) (n := 2) (w := 300) (by decide +kernel))
        · exact cst (G.Wf.of (m := 100) (n := 2) (w := 300) (by decide +kernel))
        · exact cst (G.Wf.of (m := 100) (n := 2) (w := 300) (by decide +kernel))
        · exact wide wfd
      refine ⟨b, l, _, o6, _, rfl, SL _ _ hb6, B6, by omega, upd_same, nlb, by show 0 < 6; decide, by show 6 ≤ 1000; decide, fun j x o7 hx B7 => ?_⟩
      obtain ⟨dx, ex, hdx⟩ := al.at hx
      have sam : Sam b H5 (upd (upd H6 l (.lst [V.int 0, V.int 17, V.bl true, V.non, V.str "4", v])) b o7) := fun c u1 n1 e => (upd_ne n1).trans (SL _ _ (S6 c u1 n1 e))
      exact tl _ _ ⟨x, dx, o7, rfl, upd_same, B7.mono (by omega), S5.trans sam, sam _ _ n1 hp15, sam _ _ n2 hp25, (hdx.same SL).keep fun c u1 n1 _ e => (upd_ne n1).trans e, wl dx (List.mem_of_getElem? ex)⟩
    rintro σ' H6 ⟨x, dx, o6, rfl, hb6, B6, S6, hp16, hp26, hx6, wx⟩
    clear hb5 hp15 hp25 B5' S5 y0 y1
    refine seqTail1 (fun σ' H' => ∃ (x v : V) (dx d : PyData) (o' : HO), σ' = [some (.ref b), some x, some v, some (.ref p2), some (.int sp), some (.int wy)] ∧ H' b = some o' ∧ BoxO (n + 350) o' ∧ Sam b H H' ∧ H' p2 = some (.tup (ns2.map V.int)) ∧ Dv (fun a => a ≠ b) H' x dx ∧ Wf 145 40 3000 dx ∧ Dv (fun a => a ≠ b) H' v d ∧ Wf 145 40 3000 d) ?_ (fun tl => ?_)
    case refine_2 =>
      refine ⟨_, rfl, by show 2 ≤ sizeLine; decide, fun tc htc => ⟨tc, [V.int 1, V.int 2], rfl, .inr (SqT.of upd_same), rfl, rfl, _, rfl, ?_⟩⟩
      have SC : Same H6 (upd H6 tc (.tup [V.int 1, V.int 2])) := keep_new (Same.refl _) htc
      have hbC := SC _ _ hb6
      have kp1 := SC _ _ hp16
      have kp2 := SC _ _ hp26
      have kx := hx6.same SC
      have SH := S6.trans (fun c u1 _ e => SC c u1 e)
      generalize upd H6 tc (.tup [V.int 1, V.int 2]) = HC at SC hbC kp1 kp2 kx SH ⊢
      refine ite2 (fun _ => ?_) (fun _ => tl _ _ ⟨x, .ref p1, dx, .tuple (ns1.map PyData.int), o6, rfl, hbC, B6.mono (by omega), SH, kp2, kx, wx, .tup n1 kp1 (ints_dv ns1), wp1.mono (by decide) (by decide) (by decide)⟩)
      refine ⟨_, rfl, _, rfl, _, rfl, (fun a => a ≠ b), b, _, o6, .ref p1, .tuple (ns1.map PyData.int), 100, 306, rfl, hbC, B6, by omega, .tup n1 kp1 (ints_dv ns1), fun a h => h, fun a h _ => h, wp1, by decide, by decide, by decide, by decide, fun vb db H7 o7 S7 hb7 B7 hdb wdb => ?_⟩
      refine ⟨by show 1 ≤ sizeLine; decide, fun q1 hq1 => ?_⟩
      refine ⟨q1, 17, [V.int 1], rfl, rfl, SqT.of upd_same, (fun z => by cases z), by decide, by decide, by decide, fun q2 hq2 => ?_⟩
      have S8 : Same H7 (upd (upd H7 q1 (.tup [V.int 1])) q2 (.tup (List.replicate (17 : Int).toNat [V.int 1]).flatten)) := keep_new (keep_new (Same.refl _) hq1) hq2
      have nq2 : q2 ≠ b := (ne_of_none (keep_new (Same.refl H7) hq1 _ _ hb7) hq2).symm
      have d2 : Dv (fun a => a ≠ b) (upd (upd H7 q1 (.tup [V.int 1])) q2 (.tup (List.replicate (17 : Int).toNat [V.int 1]).flatten)) (.ref q2) (.tuple ((List.replicate 17 (1 : Int)).map PyData.int)) := .tup nq2 upd_same (ints_dv (List.replicate 17 (1 : Int)))
      generalize (upd (upd H7 q1 (.tup [V.int 1])) q2 (.tup (List.replicate (17 : Int).toNat [V.int 1]).flatten)) = H8 at S8 d2 ⊢
      refine ⟨_, rfl, b, _, o7, rfl, S8 _ _ hb7, B7, by omega, fun va da H9 o9 S9 hb9 B9 hda wda => ?_⟩
      refine ⟨_, _, rfl, rfl, ⟨by decide, by decide, by decide⟩, by show 1 ≤ sizeLine; decide, fun q3 hq3 => ?_⟩
      have SA : Same H9 (upd H9 q3 (.tup [V.int (1 * 2 ^ (16 : Int).toNat)])) := keep_new (Same.refl _) hq3
      have d3 : Dv (fun a => a ≠ b) (upd H9 q3 (.tup [V.int (1 * 2 ^ (16 : Int).toNat)])) (.ref q3) (.tuple [.int (1 * 2 ^ (16 : Int).toNat)]) := .tup (ne_of_none hb9 hq3).symm upd_same (.cons (.int _) .nil)
      have hbA := SA _ _ hb9
      generalize (upd H9 q3 (.tup [V.int (1 * 2 ^ (16 : Int).toNat)])) = HA at SA d3 hbA ⊢
      refine ⟨by show 4 ≤ sizeLine; decide, fun l hl => ?_⟩
      have nlb : l ≠ b := (ne_of_none hbA hl).symm
      have SL : Same HA (upd HA l (.lst [vb, V.ref q2, va, V.ref q3])) := keep_new (Same.refl _) hl
      have sam9 : Sam b H7 HA := fun c u1 n1 e => SA _ _ (S9 c u1 n1 (S8 _ _ e))
      have al : DvAll (fun a => a ≠ b) HA [vb, V.ref q2, va, V.ref q3] [db, .tuple ((List.replicate 17 (1 : Int)).map PyData.int), da, .tuple [.int (1 * 2 ^ (16 : Int).toNat)]] :=
        .cons (hdb.keep fun c u1 n _ e => sam9 c u1 n e) (.cons ((d2.keep fun c u1 n _ e => S9 c u1 n e).same SA) (.cons ((hda.to fun _ _ _ n => n.1).same SA) (.cons d3 .nil)))
      have wl : ∀ y ∈ [db, .tuple ((List.replicate 17 (1 : Int)).map PyData.int), da, .tuple [.int (1 * 2 ^ (16 : Int).toNat)]], Wf 145 40 3000 y := fun y hy => by
        simp only [List.mem_cons, List.not_mem_nil, or_false] at hy
        rcases hy with rfl | rfl | rfl | rfl
        · exact wdb.mono (by decide) (by decide) (by decide)
        · exact cst (G.Wf.of (m := 100) (n := 2) (w := 300) (by decide +kernel))
        · exact wide wda
        · exact cst (G.Wf.of (m := 100) (n := 2) (w := 300) (by decide +kernel))
      refine ⟨b, l, _, o9, _, rfl, SL _ _ hbA, B9, by omega, upd_same, nlb, by show 0 < 4; decide, by show 4 ≤ 1000; decide, fun j y oz hy Bz => ?_⟩
      obtain ⟨dy, ey, hdy⟩ := al.at hy
      have sam : Sam b HC (upd (upd HA l (.lst [vb, V.ref q2, va, V.ref q3])) b oz) := fun c u1 n1 e => (upd_ne n1).trans (SL _ _ (sam9 c u1 n1 (S7 c u1 n1 e)))
      exact tl _ _ ⟨x, y, dx, dy, oz, rfl, upd_same, Bz.mono (by omega), SH.trans sam, sam _ _ n2 kp2, kx.keep fun c u1 n _ e => sam c u1 n e, wx, (hdy.same SL).keep fun c u1 n1 _ e => (upd_ne n1).trans e, wl dy (List.mem_of_getElem? ey)⟩
    clear hp16 hp26 hx6 wx hb6 B6 S6
    rintro σ' H6 ⟨x, v, dx, d, o6, rfl, hb6, B6, S6, hp26, hx6, wx, hv6, wv⟩
    have wl2 : Wf 145 40 3000 (.list (ns2.map PyData.int)) := (G.Wf.lst (ints_wf ns2 fun x hx => ⟨(in2 x hx).1, Int.lt_of_lt_of_le (in2 x hx).2 p2w.2⟩)).mono (by decide) (by decide) (by omega)
    refine seqTail1 (fun σ' H' => ∃ (x v u : V) (dx d du : PyData) (o' : HO), σ' = [some (.ref b), some x, some v, some u, some (.int sp), some (.int wy)] ∧ H' b = some o' ∧ BoxO (n + 550) o' ∧ Sam b H H' ∧ Dv (fun a => a ≠ b) H' x dx ∧ Wf 145 40 3000 dx ∧ Dv (fun a => a ≠ b) H' v d ∧ Wf 145 40 3000 d ∧ Dv (fun a => a ≠ b) H' u du ∧ Wf 145 40 3000 du) ?_ (fun tl => ?_)
    case refine_2 =>
      refine ⟨_, rfl, by show 2 ≤ sizeLine; decide, fun tc htc => ⟨tc, [V.int 2, V.int 3], rfl, .inr (SqT.of upd_same), rfl, rfl, _, rfl, ?_⟩⟩
      have SC : Same H6 (upd H6 tc (.tup [V.int 2, V.int 3])) := keep_new (Same.refl _) htc
      have hbC := SC _ _ hb6
      have kp2 := SC _ _ hp26
      have kx := hx6.same SC
      have kv := hv6.same SC
      have SH := S6.trans (fun c u1 _ e => SC c u1 e)
      generalize upd H6 tc (.tup [V.int 2, V.int 3]) = HC at SC hbC kp2 kx kv SH ⊢
      refine ite2 (fun _ => ?_) (fun _ => tl _ _ ⟨x, v, .ref p2, dx, d, .tuple (ns2.map PyData.int), o6, rfl, hbC, B6.mono (by omega), SH, kx, wx, kv, wv, .tup n2 kp2 (ints_dv ns2), wp2.mono (by decide) (by decide) (by decide)⟩)
      refine ⟨_, rfl, _, rfl, _, rfl, (fun a => a ≠ b), b, _, o6, .ref p2, .tuple (ns2.map PyData.int), 100, 306, rfl, hbC, B6, by omega, .tup n2 kp2 (ints_dv ns2), fun a h => h, fun a h _ => h, wp2, by decide, by decide, by decide, by decide, fun vb db H7 o7 S7 hb7 B7 hdb wdb => ?_⟩
      refine ⟨by show 1 ≤ sizeLine; decide, fun q1 hq1 => ?_⟩
      refine ⟨q1, 17, [V.int 0], rfl, rfl, SqT.of upd_same, (fun z => by cases z), by decide, by decide, by decide, fun q2 hq2 => ?_⟩
      have S8 : Same H7 (upd (upd H7 q1 (.tup [V.int 0])) q2 (.tup (List.replicate (17 : Int).toNat [V.int 0]).flatten)) := keep_new (keep_new (Same.refl _) hq1) hq2
      have nq2 : q2 ≠ b := (ne_of_none (keep_new (Same.refl H7) hq1 _ _ hb7) hq2).symm
      have d2 : Dv (fun a => a ≠ b) (upd (upd H7 q1 (.tup [V.int 0])) q2 (.tup (List.replicate (17 : Int).toNat [V.int 0]).flatten)) (.ref q2) (.tuple ((List.replicate 17 (0 : Int)).map PyData.int)) := .tup nq2 upd_same (ints_dv (List.replicate 17 (0 : Int)))
      generalize (upd (upd H7 q1 (.tup [V.int 0])) q2 (.tup (List.replicate (17 : Int).toNat [V.int 0]).flatten)) = H8 at S8 d2 ⊢
      refine ⟨_, rfl, b, _, o7, rfl, S8 _ _ hb7, B7, by omega, fun va da H9 o9 S9 hb9 B9 hda wda => ?_⟩
      have kp9 := S9 _ _ n2 (S8 _ _ (S7 _ _ n2 kp2))
      refine ⟨_, rfl, p2, _, rfl, SqT.of kp9, fun q3 hq3 y3 => ?_⟩
      have SA : Same H9 (upd H9 q3 (.lst (ns2.map V.int))) := keep_new (Same.refl _) hq3
      have d3 : Dv (fun a => a ≠ b) (upd H9 q3 (.lst (ns2.map V.int))) (.ref q3) (.list (ns2.map PyData.int)) := .lst (ne_of_none hb9 hq3).symm y3 upd_same (ints_dv ns2)
      have hbA := SA _ _ hb9
      generalize (upd H9 q3 (.lst (ns2.map V.int))) = HA at SA d3 hbA ⊢
      refine ⟨by show 4 ≤ sizeLine; decide, fun l hl => ?_⟩
      have nlb : l ≠ b := (ne_of_none hbA hl).symm
      have SL : Same HA (upd HA l (.lst [vb, V.ref q2, va, V.ref q3])) := keep_new (Same.refl _) hl
      have sam9 : Sam b H7 HA := fun c u1 n1 e => SA _ _ (S9 c u1 n1 (S8 _ _ e))
      have al : DvAll (fun a => a ≠ b) HA [vb, V.ref q2, va, V.ref q3] [db, .tuple ((List.replicate 17 (0 : Int)).map PyData.int), da, .list (ns2.map PyData.int)] :=
        .cons (hdb.keep fun c u1 n _ e => sam9 c u1 n e) (.cons ((d2.keep fun c u1 n _ e => S9 c u1 n e).same SA) (.cons ((hda.to fun _ _ _ n => n.1).same SA) (.cons d3 .nil)))
      have wl : ∀ y ∈ [db, .tuple ((List.replicate 17 (0 : Int)).map PyData.int), da, .list (ns2.map PyData.int)], Wf 145 40 3000 y := fun y hy => by
        simp only [List.mem_cons, List.not_mem_nil, or_false] at hy
        rcases hy with rfl | rfl | rfl | rfl
        · exact wdb.mono (by decide) (by decide) (by decide)
        · exact cst (G.Wf.of (m := 100) (n := 2) (w := 300) (by decide +kernel))
        · exact wide wda
        · exact wl2
      refine ⟨b, l, _, o9, _, rfl, SL _ _ hbA, B9, by omega, upd_same, nlb, by show 0 < 4; decide, by show 4 ≤ 1000; decide, fun j y oz hy Bz => ?_⟩
      obtain ⟨dy, ey, hdy⟩ := al.at hy
      have sam : Sam b HC (upd (upd HA l (.lst [vb, V.ref q2, va, V.ref q3])) b oz) := fun c u1 n1 e => (upd_ne n1).trans (SL _ _ (sam9 c u1 n1 (S7 c u1 n1 e)))
      exact tl _ _ ⟨x, v, y, dx, d, dy, oz, rfl, upd_same, Bz.mono (by omega), SH.trans sam, kx.keep fun c u1 n _ e => sam c u1 n e, wx, kv.keep fun c u1 n _ e => sam c u1 n e, wv, (hdy.same SL).keep fun c u1 n1 _ e => (upd_ne n1).trans e, wl dy (List.mem_of_getElem? ey)⟩
    clear hp26 hx6 wx hv6 wv hb6 B6 S6
    rintro σ' H6 ⟨x, v, u, dx, d, du, o6, rfl, hb6, B6, S6, hx6, wx, hv6, wv, hu6, wu⟩
    refine seqTail1 (fun σ' H' => ∃ (x v u z : V) (dx d du dz : PyData) (o' : HO), σ' = [some (.ref b), some x, some v, some u, some z, some (.int wy)] ∧ H' b = some o' ∧ BoxO (n + 700) o' ∧ Sam b H H' ∧ Dv (fun a => a ≠ b) H' x dx ∧ Wf 145 40 3000 dx ∧ Dv (fun a => a ≠ b) H' v d ∧ Wf 145 40 3000 d ∧ Dv (fun a => a ≠ b) H' u du ∧ Wf 145 40 3000 du ∧ Dv (fun a => a ≠ b) H' z dz ∧ Wf 145 40 3000 dz) ?_ (fun tl => ?_)
    case refine_2 =>
      refine ⟨_, rfl, by show 2 ≤ sizeLine; decide, fun tc htc => ⟨tc, [V.int 3, V.int 4], rfl, .inr (SqT.of upd_same), rfl, rfl, _, rfl, ?_⟩⟩
      have SC : Same H6 (upd H6 tc (.tup [V.int 3, V.int 4])) := keep_new (Same.refl _) htc
      have hbC := SC _ _ hb6
      have kx := hx6.same SC
      have kv := hv6.same SC
      have ku := hu6.same SC
      have SH := S6.trans (fun c u1 _ e => SC c u1 e)
      generalize upd H6 tc (.tup [V.int 3, V.int 4]) = HC at SC hbC kx kv ku SH ⊢
      refine ite2 (fun _ => ?_) (fun _ => tl _ _ ⟨x, v, u, .int sp, dx, d, du, .int sp, o6, rfl, hbC, B6.mono (by omega), SH, kx, wx, kv, wv, ku, wu, .int _, wsp⟩)
      refine ⟨_, rfl, _, rfl, _, _, rfl, rfl, ⟨by decide, by decide, by decide⟩, _, rfl, b, _, o6, rfl, hbC, B6, by omega, fun va da H9 o9 S9 hb9 B9 hda wda => ?_⟩
      refine ⟨by show 6 ≤ sizeLine; decide, fun l hl => ?_⟩
      have nlb : l ≠ b := (ne_of_none hb9 hl).symm
      have SL : Same H9 (upd H9 l (.lst [V.int (-1), V.int (1 * 2 ^ (16 : Int).toNat), V.bl true, V.non, V.str "0", va])) := keep_new (Same.refl _) hl
      have al : DvAll (fun a => a ≠ b) H9 [V.int (-1), V.int (1 * 2 ^ (16 : Int).toNat), V.bl true, V.non, V.str "0", va] [.int (-1), .int (1 * 2 ^ (16 : Int).toNat), .bool true, .none, .str "0", da] := .cons (.int _) (.cons (.int _) (.cons (.bl _) (.cons .non (.cons (.str _) (.cons (hda.to fun _ _ _ n => n.1) .nil)))))
      have wl : ∀ y ∈ [PyData.int (-1), .int (1 * 2 ^ (16 : Int).toNat), .bool true, .none, .str "0", da], Wf 145 40 3000 y := fun y hy => by
        simp only [List.mem_cons, List.not_mem_nil, or_false] at hy
        rcases hy with rfl | rfl | rfl | rfl | rfl | rfl
        · exact cst (G.Wf.of (m := 100) (n := 2) (w := 300) (by decide +kernel))
        · exact cst (G.Wf.of (m := 100) (n := 2) (w := 300) (by decide +kernel))
        · exact cst (G.Wf.of (m := 100) (n := 2) (w := 300) (by decide +kernel))
        · exact cst (G.Wf.of (m := 100) (n := 2) (w := 300) (by decide +kernel))
        · exact cst (G.Wf.of (m := 100) (n := 2) (w := 300) (by decide +kernel))
        · exact wide wda
      refine ⟨b, l, _, o9, _, rfl, SL _ _ hb9, B9, by omega, upd_same, nlb, by show 0 < 6; decide, by show 6 ≤ 1000; decide, fun j y oz hy Bz => ?_⟩
      obtain ⟨dy, ey, hdy⟩ := al.at hy
      have sam : Sam b HC (upd (upd H9 l (.lst [V.int (-1), V.int (1 * 2 ^ (16 : Int).toNat), V.bl true, V.non, V.str "0", va])) b oz) := fun c u1 n1 e => (upd_ne n1).trans (SL _ _ (S9 c u1 n1 e))
      exact tl _ _ ⟨x, v, u, y, dx, d, du, dy, oz, rfl, upd_same, Bz.mono (by omega), SH.trans sam, kx.keep fun c u1 n _ e => sam c u1 n e, wx, kv.keep fun c u1 n _ e => sam c u1 n e, wv, ku.keep fun c u1 n _ e => sam c u1 n e, wu, (hdy.same SL).keep fun c u1 n1 _ e => (upd_ne n1).trans e, wl dy (List.mem_of_getElem? ey)⟩
    clear hx6 wx hv6 wv hu6 wu hb6 B6 S6
    rintro σ' H6 ⟨x, v, u, z, dx, d, du, dz, o6, rfl, hb6, B6, S6, hx6, wx, hv6, wv, hu6, wu, hz6, wz⟩
    refine ⟨_, rfl, _, rfl, _, rfl, _, rfl, by show 4 ≤ sizeLine; decide, fun r hr' => ?_⟩
    have SL : Same H6 (upd H6 r (.tup [x, v, u, z])) := keep_new (Same.refl _) hr'
    refine k r x v u z dx d du dz _ o6 (S6.trans fun c u1 _ e => SL c u1 e) (SL _ _ hb6) (B6.mono (by omega)) upd_same fun y e hy => ?_
    simp only [List.mem_cons, List.not_mem_nil, or_false, Prod.mk.injEq] at hy
    rcases hy with ⟨rfl, rfl⟩ | ⟨rfl, rfl⟩ | ⟨rfl, rfl⟩ | ⟨rfl, rfl⟩
    · exact ⟨hx6.same SL, wx⟩
    · exact ⟨hv6.same SL, wv⟩
    · exact ⟨hu6.same SL, wu⟩
    · exact ⟨hz6.same SL, wz⟩
end
end X1
set_option Elab.async false
set_option maxRecDepth 100000
set_option maxHeartbeats 8000000
set_option pp.maxSteps 600
namespace X1
open PySem L2
open G (Dv DvAll DvKv Wf WfA Keeps spInit ClsFn FunD KxC Kept Flies)
/-! ### what each call should tell -/
def wOf : PyData → Nat
  | .int i => i.toNat
  | _ => 0
def due1 (dx d : PyData) : Str := if widthD dx = false then (dWid dx).shown else if mapD (wOf dx) d = false then (dMap d).shown else "fine"
def due2 (dx d dz : PyData) : Str := if widthD dx = false then (dWid dx).shown else if mapD (wOf dx) d = false then (dMap d).shown else if addrD (wOf dx) dz = false then (dSpot dz).shown else "fine"
def isE : PyData → Bool
  | .tuple [] => true
  | _ => false
def due3 (dx d du : PyData) : Str := if widthD dx = false then (dWid dx).shown else if mapD (wOf dx) d = false then (dMap d).shown else if mapD (wOf dx) du = false then (dMap du).shown else if isE d = true then (dMap (.tuple [])).shown else "fine"
theorem wd_good {wd : Nat} (w1 : 1 ≤ wd) (w16 : wd ≤ 16) : widthD (.int (wd : Int)) = true := decide_eq_true ⟨by omega, by omega⟩
section
variable {P : Program} {w : World} {K : PySem.W.Frag} {mg : Str → Option Value} {base : Heap}
def spDue : Sp := fun vs H Q _ => ∃ (N : Addr → Prop) (x v u z : V) (dx d du dz : PyData), vs = [x, v, u, z] ∧ (Dv N H x dx ∧ Wf 145 40 3000 dx) ∧ (Dv N H v d ∧ Wf 145 40 3000 d) ∧ (Dv N H u du ∧ Wf 145 40 3000 du) ∧ (Dv N H z dz ∧ Wf 145 40 3000 dz) ∧
  ∀ (q : Addr) (H' : Hp), Same H H' → H' q = some (.lst [.str (due1 dx d), .str (due2 dx d dz), .str (due3 dx d du)]) → Q (.ref q) H'
theorem scDue : FnScope ["_law_size", "_law_plan_here", "_law_more", "_law_spot", "_law_third"] ["_law_size", "_law_plan_here", "_law_more", "_law_spot"] (defScope sDue) := ⟨rfl, rfl, rfl, by decide +kernel, rfl, by decide +kernel, by decide +kernel⟩
theorem ok_due {f f1 f2 f3 f4 : Addr} {fd fd1 fd2 fd3 fd4 : FuncData} (A0 : Fun K "_law_due" "_law_due" sDue f fd) (AP : At K mg "_law_is_plan" sLPlan ["_law_size", "_law_thing"] f1 fd1) (A1 : At K mg "_law_is_int" sLInt ["_law_thing"] f2 fd2) (ALS : At K mg "_law_is_spot" sLSpot ["_law_size", "_law_thing"] f3 fd3) (AS : At K mg "_law_is_size" sLSize ["_law_thing"] f4 fd4) (T : Txt K mg) : G.FnG P w K mg base 5 f fd ["_law_size", "_law_plan_here", "_law_more", "_law_spot"] spDue := by
  have GP : FnOk P w K mg base CX0 3 f1 fd1 ["_law_size", "_law_thing"] spMasks := ok_lPlan AP A1 ALS T
  have GQ : FnOk P w K mg base CX0 2 f3 fd3 ["_law_size", "_law_thing"] spAddr := ok_lSpot ALS A1 T
  have GS : FnOk P w K mg base CX0 2 f4 fd4 ["_law_thing"] spSize := ok_lSize AS A1 T
  refine G.okG A0 scDue (fun vs H Q E h => ?_) (fun cdv A outer s H vs Q E hga0 hr h => ?_)
  · obtain ⟨N, x, v, u, z, dx, d, du, dz, rfl, _⟩ := h
    rfl
  · obtain ⟨N, x, v, u, z, dx, d, du, dz, rfl, ⟨hx, wx⟩, ⟨hv, wv⟩, ⟨hu, wu⟩, ⟨hz, wz⟩, k⟩ := h
    have hga : (A.deeper (PyProof.Rows.envOfC "_law_due" (defScope sDue) s.heap.objs.size f cdv)).guards = some [] := hga0
    have hr2 : Room 2 _ := hr.mono (by decide)
    have hr3 : Room 3 _ := hr.mono (by decide)
    refine ⟨_, (pss_cons (ps_if (pt_not (pt_val (pe_call GS hr2 (by rfl) AS.mg AS.fn.kp AS.bi .nil pass0 (pa_cons (pv 0) pa_nil)))) (pss_one (ps_ret (pe_op op_rep (pe_lst (pa_cons (pe_callB (G.call_repr_any (k := 4) hga hr) (by rfl) T.repr (by decide +kernel) (pa_cons (pe_tup (pa_cons pe_str (pa_cons (pv 0) pa_nil))) pa_nil)) pa_nil)) pe_int))) pss_nil)
      (pss_cons (ps_if (pt_not (pt_val (pe_call GP hr3 (by rfl) AP.mg AP.fn.kp AP.bi .nil pass0 (pa_cons (pv 0) (pa_cons (pv 1) pa_nil))))) (pss_one (ps_ret (pe_op op_rep (pe_lst (pa_cons (pe_callB (G.call_repr_any (k := 4) hga hr) (by rfl) T.repr (by decide +kernel) (pa_cons (pe_tup (pa_cons pe_str (pa_cons (pv 1) pa_nil))) pa_nil)) pa_nil)) pe_int))) pss_nil)
      (pss_cons (ps_set (i := 4) scDue.nd rfl (Or.inl rfl) (pe_ifExp (pt_cmpR (G.op_neT0 hr.units) (pv 1) (pe_tup pa_nil) (nomark _)) pe_str (pe_callB (G.call_repr_any (k := 4) hga hr) (by rfl) T.repr (by decide +kernel) (pa_cons (pe_tup (pa_cons pe_str (pa_cons (pe_tup pa_nil) pa_nil))) pa_nil))))
      (pss_cons (ps_set (i := 4) scDue.nd rfl (Or.inl rfl) (pe_ifExp (pt_val (pe_call GP hr3 (by rfl) AP.mg AP.fn.kp AP.bi .nil pass0 (pa_cons (pv 0) (pa_cons (pv 2) pa_nil)))) (pv 4) (pe_callB (G.call_repr_any (k := 4) hga hr) (by rfl) T.repr (by decide +kernel) (pa_cons (pe_tup (pa_cons pe_str (pa_cons (pv 2) pa_nil))) pa_nil))))
      (pss_one (ps_ret (pe_lst (pa_cons pe_str (pa_cons (pe_ifExp (pt_val (pe_call GQ hr2 (by rfl) ALS.mg ALS.fn.kp ALS.bi .nil pass0 (pa_cons (pv 0) (pa_cons (pv 3) pa_nil)))) pe_str (pe_callB (G.call_repr_any (k := 4) hga hr) (by rfl) T.repr (by decide +kernel) (pa_cons (pe_tup (pa_cons pe_str (pa_cons (pv 3) pa_nil))) pa_nil))) (pa_cons (pv 4) pa_nil)))))))))), ?_⟩
    have rep : ∀ {m n w : Nat} {d : PyData}, Wf m n w d → m ≤ 298 → n ≤ 58 → w ≤ 40000 → Wf 298 58 40000 d := fun h a b c => h.mono a b c
    have up : ∀ {d : PyData}, Wf 145 40 3000 d → Wf 290 50 30000 d := fun h => h.mono (by decide) (by decide) (by decide)
    refine ⟨_, rfl, N, x, dx, rfl, hx, _, rfl, ?_⟩
    cases hw : widthD dx with
    | false =>
      refine iteT ⟨_, rfl, by show 2 ≤ sizeLine; decide, fun e he => ?_⟩
      have S1 : Same H (upd H e (.tup [V.str "width", x])) := keep_new (Same.refl _) he
      obtain ⟨g1, g2, g3⟩ := (wf_wid (up wx)).shows (by decide) (by decide) (by decide)
      refine ⟨fun _ => True, _, dWid dx, rfl, .tup trivial upd_same (.cons (.str _) (.cons ((hx.to fun _ _ _ _ => trivial).same S1) .nil)), g1, g2, g3, ?_⟩
      generalize upd H e (.tup [V.str "width", x]) = H1 at S1 ⊢
      refine ⟨by show 1 ≤ sizeLine; decide, fun l hl => ⟨l, 3, [V.str (dWid dx).shown], rfl, rfl, upd_same, by decide, by decide, by show 1 * 3 ≤ sizeLine; decide, fun p hp => ?_⟩⟩
      have kk := k p _ (keep_new (keep_new S1 hl) hp) (by rw [due1, due2, due3, if_pos hw, if_pos hw, if_pos hw]; exact upd_same)
      exact kk
    | true =>
      obtain ⟨wd, rfl, rfl, w1, w16⟩ := width_cases hx hw
      have ewd : wOf (.int (wd : Int)) = wd := Int.toNat_natCast wd
      refine iteF ?_
      refine ⟨_, rfl, _, rfl, wd, N, v, d, rfl, by omega, hv, fun H1 S1 => ⟨_, rfl, ?_⟩⟩
      cases hm : mapD wd d with
      | false =>
        refine iteT ⟨_, rfl, by show 2 ≤ sizeLine; decide, fun e he => ?_⟩
        have S2 : Same H1 (upd H1 e (.tup [V.str "map", v])) := keep_new (Same.refl _) he
        obtain ⟨g1, g2, g3⟩ := (wf_map (up wv)).shows (by decide) (by decide) (by decide)
        refine ⟨fun _ => True, _, dMap d, rfl, .tup trivial upd_same (.cons (.str _) (.cons ((hv.to fun _ _ _ _ => trivial).same (S1.trans S2)) .nil)), g1, g2, g3, ?_⟩
        generalize upd H1 e (.tup [V.str "map", v]) = H2 at S2 ⊢
        refine ⟨by show 1 ≤ sizeLine; decide, fun l hl => ⟨l, 3, [V.str (dMap d).shown], rfl, rfl, upd_same, by decide, by decide, by show 1 * 3 ≤ sizeLine; decide, fun p hp => ?_⟩⟩
        have nw : ¬ widthD (.int (wd : Int)) = false := by rw [hw]; decide
        exact k p _ (keep_new (keep_new (S1.trans S2) hl) hp) (by rw [due1, due2, due3, if_neg nw, if_neg nw, if_neg nw, ewd, if_pos hm, if_pos hm, if_pos hm]; exact upd_same)
      | true =>
        refine iteF ?_
        obtain ⟨p, vv, rfl, _, hp, ed, _, _⟩ := map_nv hv hm
        have nw : ¬ widthD (.int (wd : Int)) = false := by rw [hw]; decide
        have nm : ¬ mapD wd d = false := by rw [hm]; decide
        refine seqTail (fun σ' H' => σ' = [some (.int (wd : Int)), some (.ref p), some u, some z, some (.str (if isE d = true then (dMap (.tuple [])).shown else "fine"))] ∧ Same H H') ?_ (fun tl => ?_)
        case refine_2 =>
          refine ⟨_, rfl, by show 0 ≤ sizeLine; decide, fun e he => ?_⟩
          have S2 : Same H1 (upd H1 e (.tup [])) := keep_new (Same.refl _) he
          refine ⟨p, e, _, rfl, rfl, S2 _ _ (S1 _ _ hp), upd_same, _, rfl, ?_⟩
          generalize upd H1 e (.tup []) = H2 at S2 ⊢
          cases vv with
          | nil =>
            refine iteF ⟨by show 0 ≤ sizeLine; decide, fun e1 he1 => ⟨by show 2 ≤ sizeLine; decide, fun e2 he2 => ?_⟩⟩
            have S3 : Same H2 (upd H2 e1 (.tup [])) := keep_new (Same.refl _) he1
            have de : Dv (fun _ => True) (upd H2 e1 (.tup [])) (.ref e1) (.tuple []) := .tup trivial upd_same .nil
            generalize upd H2 e1 (.tup []) = H3 at S3 de he2 ⊢
            have S4 : Same H3 (upd H3 e2 (.tup [V.str "map", V.ref e1])) := keep_new (Same.refl _) he2
            obtain ⟨g1, g2, g3⟩ := (wf_map (d := .tuple []) ((G.Wf.of (m := 100) (n := 2) (w := 100) (by decide +kernel)).mono (by decide) (by decide) (by decide))).shows (by decide) (by decide) (by decide)
            refine ⟨fun _ => True, _, dMap (.tuple []), rfl, .tup trivial upd_same (.cons (.str _) (.cons (de.same S4) .nil)), g1, g2, g3, ?_⟩
            exact tl _ _ ⟨by rw [ed]; rfl, ((S1.trans S2).trans S3).trans S4⟩
          | cons a c => exact iteT (tl _ _ ⟨by rw [ed]; rfl, S1.trans S2⟩)
        rintro σ' H2 ⟨rfl, S2⟩
        refine seqTail1 (fun σ' H' => σ' = [some (.int (wd : Int)), some (.ref p), some u, some z, some (.str (if mapD wd du = false then (dMap du).shown else if isE d = true then (dMap (.tuple [])).shown else "fine"))] ∧ Same H H') ?_ (fun tl => ?_)
        case refine_2 =>
          refine ⟨_, rfl, _, rfl, wd, N, u, du, rfl, by omega, hu.same S2, fun H3 S3 => ⟨_, rfl, ?_⟩⟩
          cases hmu : mapD wd du with
          | true => exact iteT ⟨_, rfl, tl _ _ ⟨by rw [hmu]; rfl, S2.trans S3⟩⟩
          | false =>
            refine iteF ⟨_, rfl, by show 2 ≤ sizeLine; decide, fun e he => ?_⟩
            have S4 : Same H3 (upd H3 e (.tup [V.str "map", u])) := keep_new (Same.refl _) he
            obtain ⟨g1, g2, g3⟩ := (wf_map (up wu)).shows (by decide) (by decide) (by decide)
            refine ⟨fun _ => True, _, dMap du, rfl, .tup trivial upd_same (.cons (.str _) (.cons ((hu.to fun _ _ _ _ => trivial).same ((S2.trans S3).trans S4)) .nil)), g1, g2, g3, ?_⟩
            exact tl _ _ ⟨by rw [hmu]; rfl, (S2.trans S3).trans S4⟩
        rintro σ' H3 ⟨rfl, S3⟩
        have fin : ∀ (q : Addr) (H' : Hp) (t : Str), t = due2 (.int (wd : Int)) d dz → Same H H' → H' q = none → Q (.ref q) (upd H' q (.lst [V.str "fine", V.str t, V.str (if mapD wd du = false then (dMap du).shown else if isE d = true then (dMap (.tuple [])).shown else "fine")])) := fun q H' t et S hq =>
          k q _ (keep_new S hq) (by rw [upd_same, et, due1, due3, if_neg nw, if_neg nw, ewd, if_neg nm, if_neg nm])
        refine ⟨_, rfl, _, rfl, wd, N, z, dz, rfl, by omega, hz.same S3, _, rfl, ?_⟩
        cases ha : addrD wd dz with
        | true => exact iteT ⟨_, rfl, by show 3 ≤ sizeLine; decide, fun q hq => fin q _ _ (by rw [due2, if_neg nw, ewd, if_neg nm, ha]; rfl) S3 hq⟩
        | false =>
          refine iteF ⟨_, rfl, by show 2 ≤ sizeLine; decide, fun e he => ?_⟩
          have S4 : Same H3 (upd H3 e (.tup [V.str "spot", z])) := keep_new (Same.refl _) he
          obtain ⟨g1, g2, g3⟩ := (wf_spot (up wz)).shows (by decide) (by decide) (by decide)
          refine ⟨fun _ => True, _, dSpot dz, rfl, .tup trivial upd_same (.cons (.str _) (.cons ((hz.to fun _ _ _ _ => trivial).same (S3.trans S4)) .nil)), g1, g2, g3, ?_⟩
          exact ⟨_, rfl, by show 3 ≤ sizeLine; decide, fun q hq => fin q _ _ (by rw [due2, if_neg nw, ewd, if_neg nm, ha]; rfl) (S3.trans S4) hq⟩
end
end X1
set_option Elab.async false
set_option maxRecDepth 100000
set_option maxHeartbeats 8000000
set_option pp.maxSteps 600
namespace X1
open PySem L2
open G (Dv DvAll DvKv Wf WfA Keeps spInit ClsFn FunD KxC Kept Flies)
/-! ### what is told of each call is what should be -/
section
variable {CW CM CA CD CN : Addr} {M : Addr → Prop} {x v u : V} {dx d du : PyData} {σ : L2.St} {H : Hp} {Q : VK} {i j l : Nat}
theorem told_two (hi : σ[i]? = some (some x)) (hj : σ[j]? = some (some v)) (hx : Dv M H x dx) (wx : Wf 290 50 30000 dx) (hd : Dv M H v d) (wd : Wf 290 50 30000 d)
    (k : ∀ H', Same H H' → Q (.str (due1 dx d)) H') : TTold CW CM CA CD CN (fun E H' Q' => tCall (spTwo CW CM CD CN) [] E (tCons (tVar i) (tCons (tVar j) tNil)) σ H' Q') H Q := by
  intro Q' hQ' H1 s1
  unfold due1 at k
  refine ⟨_, hi, _, hj, M, M, x, v, dx, d, rfl, hx.same s1, hd.same s1, fun e dd H2 s2 _ hxd => ?_, fun n e w1 w16 => ⟨fun em H2 s2 dd H3 s3 _ hxd => ?_, fun em H2 s2 => ?_⟩⟩
  · refine ⟨dd, x, rfl, hxd, .inl ⟨dx, M, hx.same (s1.trans s2), wx, .inl ⟨rfl, fun H4 s4 => ?_⟩⟩⟩
    have kk := k H4 ((s1.trans s2).trans s4)
    rw [if_pos e] at kk
    exact kk
  · refine ⟨dd, v, rfl, hxd, .inl ⟨d, M, hd.same ((s1.trans s2).trans s3), wd, .inr (.inl ⟨rfl, fun H4 s4 => ?_⟩)⟩⟩
    have kk := k H4 (((s1.trans s2).trans s3).trans s4)
    rw [e, if_neg (by rw [wd_good w1 w16]; decide), show wOf (.int (n : Int)) = n from Int.toNat_natCast n, if_pos em] at kk
    exact kk
  · have kk : ∀ H4, Same H2 H4 → Q (.str "fine") H4 := fun H4 s4 => by
      have kk := k H4 ((s1.trans s2).trans s4)
      rw [e, if_neg (by rw [wd_good w1 w16]; decide), show wOf (.int (n : Int)) = n from Int.toNat_natCast n, if_neg (by rw [em]; decide)] at kk
      exact kk
    exact ⟨fun u => hQ' u H2 kk, fun dd H3 s3 _ hxd => ⟨dd, .non, rfl, hxd, .inr ⟨.inl rfl, fun H4 s4 => kk H4 (Same.trans s3 s4)⟩⟩, fun dd H3 s3 _ hxd => ⟨dd, .non, rfl, hxd, .inr ⟨.inr rfl, fun H4 s4 => kk H4 (Same.trans s3 s4)⟩⟩⟩
theorem told_bank {z : V} {dz : PyData} (hi : σ[i]? = some (some x)) (hj : σ[j]? = some (some v)) (hl : σ[l]? = some (some z)) (hx : Dv M H x dx) (wx : Wf 290 50 30000 dx) (hd : Dv M H v d) (wd : Wf 290 50 30000 d) (hz : Dv M H z dz) (wz : Wf 290 50 30000 dz)
    (k : ∀ H', Same H H' → Q (.str (due2 dx d dz)) H') : TTold CW CM CA CD CN (fun E H' Q' => tCall (spBankA CW CM CA) [] E (tCons (tVar i) (tCons (tVar j) (tCons (tVar l) tNil))) σ H' Q') H Q := by
  intro Q' hQ' H1 s1
  unfold due2 at k
  refine ⟨_, hi, _, hj, _, hl, M, M, M, x, v, z, dx, d, dz, rfl, hx.same s1, hd.same s1, hz.same s1, fun e dd H2 s2 _ hxd => ?_, fun n e w1 w16 => ⟨fun em H2 s2 dd H3 s3 _ hxd => ?_, fun em ea H2 s2 dd H3 s3 _ hxd => ?_, fun em ea H2 s2 y => hQ' y H2 fun H4 s4 => ?_⟩⟩
  · refine ⟨dd, x, rfl, hxd, .inl ⟨dx, M, hx.same (s1.trans s2), wx, .inl ⟨rfl, fun H4 s4 => ?_⟩⟩⟩
    have kk := k H4 ((s1.trans s2).trans s4)
    rw [if_pos e] at kk
    exact kk
  · refine ⟨dd, v, rfl, hxd, .inl ⟨d, M, hd.same ((s1.trans s2).trans s3), wd, .inr (.inl ⟨rfl, fun H4 s4 => ?_⟩)⟩⟩
    have kk := k H4 (((s1.trans s2).trans s3).trans s4)
    rw [e, if_neg (by rw [wd_good w1 w16]; decide), show wOf (.int (n : Int)) = n from Int.toNat_natCast n, if_pos em] at kk
    exact kk
  · refine ⟨dd, z, rfl, hxd, .inl ⟨dz, M, hz.same ((s1.trans s2).trans s3), wz, .inr (.inr ⟨rfl, fun H4 s4 => ?_⟩)⟩⟩
    have kk := k H4 (((s1.trans s2).trans s3).trans s4)
    rw [e, if_neg (by rw [wd_good w1 w16]; decide), show wOf (.int (n : Int)) = n from Int.toNat_natCast n, if_neg (by rw [em]; decide), if_pos ea] at kk
    exact kk
  · have kk := k H4 ((s1.trans s2).trans s4)
    rw [e, if_neg (by rw [wd_good w1 w16]; decide), show wOf (.int (n : Int)) = n from Int.toNat_natCast n, if_neg (by rw [em]; decide), if_neg (by rw [ea]; decide)] at kk
    exact kk
theorem told_rec (hi : σ[i]? = some (some x)) (hj : σ[j]? = some (some v)) (hl : σ[l]? = some (some u)) (hx : Dv M H x dx) (wx : Wf 290 50 30000 dx) (hd : Dv M H v d) (wd : Wf 290 50 30000 d) (hu : Dv M H u du) (wu : Wf 290 50 30000 du)
    (k : ∀ H', Same H H' → Q (.str (due3 dx d du)) H') : TTold CW CM CA CD CN (fun E H' Q' => tCall (spRecA CW CM) [] E (tCons (tVar i) (tCons (tVar j) (tCons (tVar l) tNil))) σ H' Q') H Q := by
  intro Q' hQ' H1 s1
  unfold due3 at k
  have isE_iff : d ≠ .tuple [] → ¬ isE d = true := fun h e => h (by
    cases d with
    | tuple ds =>
      cases ds with
      | nil => rfl
      | cons a b => cases e
    | _ => cases e)
  refine ⟨_, hi, _, hj, _, hl, M, M, M, x, v, u, dx, d, du, rfl, hx.same s1, hd.same s1, hu.same s1, fun e dd H2 s2 _ hxd => ?_, fun n e w1 w16 => ⟨fun em H2 s2 dd H3 s3 _ hxd => ?_, fun em ea H2 s2 dd H3 s3 _ hxd => ?_, fun ea ed H2 s2 dd H3 s3 _ hxd => ?_, fun em ea ed H2 s2 y => hQ' y H2 fun H4 s4 => ?_⟩⟩
  · refine ⟨dd, x, rfl, hxd, .inl ⟨dx, M, hx.same (s1.trans s2), wx, .inl ⟨rfl, fun H4 s4 => ?_⟩⟩⟩
    have kk := k H4 ((s1.trans s2).trans s4)
    rw [if_pos e] at kk
    exact kk
  · refine ⟨dd, v, rfl, hxd, .inl ⟨d, M, hd.same ((s1.trans s2).trans s3), wd, .inr (.inl ⟨rfl, fun H4 s4 => ?_⟩)⟩⟩
    have kk := k H4 (((s1.trans s2).trans s3).trans s4)
    rw [e, if_neg (by rw [wd_good w1 w16]; decide), show wOf (.int (n : Int)) = n from Int.toNat_natCast n, if_pos em] at kk
    exact kk
  · refine ⟨dd, u, rfl, hxd, .inl ⟨du, M, hu.same ((s1.trans s2).trans s3), wu, .inr (.inl ⟨rfl, fun H4 s4 => ?_⟩)⟩⟩
    have kk := k H4 (((s1.trans s2).trans s3).trans s4)
    rw [e, if_neg (by rw [wd_good w1 w16]; decide), show wOf (.int (n : Int)) = n from Int.toNat_natCast n, if_neg (by rw [em]; decide), if_pos ea] at kk
    exact kk
  · refine ⟨dd, v, rfl, hxd, .inl ⟨d, M, hd.same ((s1.trans s2).trans s3), wd, .inr (.inl ⟨rfl, fun H4 s4 => ?_⟩)⟩⟩
    have kk := k H4 (((s1.trans s2).trans s3).trans s4)
    have em : mapD n d = true := by rw [ed]; rfl
    rw [e, if_neg (by rw [wd_good w1 w16]; decide), show wOf (.int (n : Int)) = n from Int.toNat_natCast n, if_neg (by rw [em]; decide), if_neg (by rw [ea]; decide), if_pos (by rw [ed]; rfl)] at kk
    rw [ed]
    exact kk
  · have kk := k H4 ((s1.trans s2).trans s4)
    rw [e, if_neg (by rw [wd_good w1 w16]; decide), show wOf (.int (n : Int)) = n from Int.toNat_natCast n, if_neg (by rw [em]; decide), if_neg (by rw [ea]; decide), if_neg (isE_iff ed)] at kk
    exact kk
theorem told_join (hi : σ[i]? = some (some x)) (hj : σ[j]? = some (some v)) (hx : Dv M H x dx) (wx : Wf 290 50 30000 dx) (hd : Dv M H v d) (wd : Wf 290 50 30000 d)
    (k : ∀ H', Same H H' → Q (.str (due1 dx d)) H') : TTold CW CM CA CD CN (fun E H' Q' => G.tCallR (spJV CW CM) E (tCons (tVar i) (tCons (tVar j) tNil)) σ H' Q') H Q := by
  intro Q' hQ' H1 s1
  unfold due1 at k
  refine ⟨_, hi, _, hj, M, M, x, dx, [v], [d], rfl, hx.same s1, .cons (hd.same s1) .nil, by show 1 ≤ 8; decide, fun e H2 s2 dd H3 s3 _ hxd => ?_, fun n e w1 w16 => ⟨fun i' v' d' e1 e2 em _ H2 s2 dd H3 s3 _ hxd => ?_, fun em r H2 s2 hr => ⟨fun _ => hQ' _ H2 fun H4 s4 => ?_, fun h16 => ?_⟩⟩⟩
  · refine ⟨dd, x, rfl, hxd, .inl ⟨dx, M, hx.same ((s1.trans s2).trans s3), wx, .inl ⟨rfl, fun H4 s4 => ?_⟩⟩⟩
    have kk := k H4 (((s1.trans s2).trans s3).trans s4)
    rw [if_pos e] at kk
    exact kk
  · match i', e1, e2 with
    | 0, e1, e2 =>
      cases e1
      cases e2
      refine ⟨dd, v, rfl, hxd, .inl ⟨d, M, hd.same ((s1.trans s2).trans s3), wd, .inr (.inl ⟨rfl, fun H4 s4 => ?_⟩)⟩⟩
      have kk := k H4 (((s1.trans s2).trans s3).trans s4)
      rw [e, if_neg (by rw [wd_good w1 w16]; decide), show wOf (.int (n : Int)) = n from Int.toNat_natCast n, if_pos em] at kk
      exact kk
    | i' + 1, e1, _ => cases e1
  · have em1 := em d (List.mem_singleton.mpr rfl)
    have kk := k H4 ((s1.trans s2).trans s4)
    rw [e, if_neg (by rw [wd_good w1 w16]; decide), show wOf (.int (n : Int)) = n from Int.toNat_natCast n, if_neg (by rw [em1]; decide)] at kk
    exact kk
  · obtain ⟨_, h2⟩ := join_all em
    exact absurd h2 h16
end
end X1
set_option Elab.async false
set_option maxRecDepth 100000
set_option maxHeartbeats 8000000
set_option pp.maxSteps 600
namespace X1
open PySem L2
open LamX (Tabs TabS TabB CodeO ExtN)
open G (Dv DvAll DvKv Wf WfA Keeps spInit ClsFn FunD KxC Kept Flies)
/-! ### what stays, where tables grow and the box turns -/
def SamN (b : Addr) (H H' : Hp) : Prop := ∀ c o, c ≠ b → (∀ ps, o ≠ .tbl ps) → H c = some o → H' c = some o
theorem SamN.of {b : Addr} {H H' : Hp} (h : Sam b H H') : SamN b H H' := fun c o n _ e => h c o n e
theorem SamN.trans {b : Addr} {H H1 H2 : Hp} (x : SamN b H H1) (y : SamN b H1 H2) : SamN b H H2 := fun c o n t e => y c o n t (x c o n t e)
theorem SamN.ext {b : Addr} {H H' : Hp} (h : ExtN H H') : SamN b H H' := fun c o _ t e => h c o e t
theorem SamN.same {b : Addr} {H H' : Hp} (h : Same H H') : SamN b H H' := fun c o _ _ e => h c o e
theorem tabs_sam {T : List (Addr × Str)} {b : Addr} {H H' : Hp} {xs : List V} (hb : H b = some (.lst xs)) (h : Sam b H H') (t : Tabs T H) : Tabs T H' := fun p hp => by
  obtain ⟨ps, h1, h2, h3⟩ := t p hp
  have n1 : p.1 ≠ b := fun z => by
    rw [z, hb] at h1
    cases h1
  refine ⟨ps, h _ _ n1 h1, h2, fun pos cv hc => ?_⟩
  obtain ⟨c, e1, e2⟩ := h3 pos cv hc
  have n2 : c ≠ b := fun z => by
    rw [z, hb] at e2
    unfold CodeO at e2
    cases e2
  exact ⟨c, e1, h _ _ n2 e2⟩
/-- a tuple, a list, as data it stays -/
theorem nt_tup {xs : List V} (ps : Array Value) : HO.tup xs ≠ .tbl ps := fun z => by cases z
theorem nt_lst {xs : List V} (ps : Array Value) : HO.lst xs ≠ .tbl ps := fun z => by cases z
/-- the name of what _law_right makes by lambda -/
def qLam : Str := (PyProof.Rows.envOfC "_law_right" (defScope sRight) 0 0 .none).qual ++ "<lambda>"
section
variable {P : Program} {w : World} {K : PySem.W.Frag} {mg : Str → Option Value} {base : Heap}
/-- a def by its body, its code object told, its guards told -/
theorem fnG_at {x : Str} {st : Stmt} {f : Addr} {dV kV doc pm cdv ct oc : Value} {an od : Option Addr} {osl : Array (Option Value)} {N ps : List Str} {k : Nat} {sp : Sp}
    (lk : K.lookup f = some ⟨oc, od, .func (PySem.W.fnOf x x (defArgs st) (defBody st) (defScope st) dV kV doc pm an cdv ct), osl⟩) (hcd : PySem.W.codeIn K cdv x = true) (S : FnScope N ps (defScope st)) (len : ∀ vs H Q E, sp vs H Q E → vs.length = ps.length)
    (body : ∀ (A : Around) (outer : List Env) (s : Shared) (H : Hp) (vs : List V) (Q : VK) (E : XK), A.guards = some [] → Room k (A.deeper (PyProof.Rows.envOfC x (defScope st) s.heap.objs.size f cdv)) → sp vs H Q E →
      ∃ t, PSs (cxOf CX0 P w K mg base N x (defScope st) f cdv A outer s H E).nox (defBody st) t ∧ t { nx := fun _ H' => Q .non H', rt := Q } (start N vs) H) :
    G.FnG P w K mg base (k + 1) f (PySem.W.fnOf x x (defArgs st) (defBody st) (defScope st) dV kV doc pm an cdv ct) ps sp :=
  ⟨len, fun A outer s H args us vs Q E hg hr e0 hb r hsp => by
    have h := body A outer s H vs Q E hg
    exact LamX.run_ofS (CX := CX0) (N := N) lk hcd S hr e0 hb r (len _ _ _ _ hsp) fun hr2 => (h hr2 hsp).imp fun t ⟨h1, h2⟩ => ⟨h1.nox, h2⟩⟩
/-! ### _law_right -/
def spRight (PT : Addr) : Sp := fun vs H Q _ => ∃ (b : Addr) (o : HO), vs = [.ref b] ∧ H b = some o ∧ BoxO 0 o ∧ Tabs [(PT, qLam)] H ∧
  ∀ (H' : Hp), SamN b H H' → Tabs [(PT, qLam)] H' → Q (.bl true) H'
theorem scRight : FnScope ["_law_box_here", "_law_turn", "_law_before", "_law_due_here", "_law_told_here", "_law_more", "_law_plan_here", "_law_size", "_law_spot"] ["_law_box_here"] (defScope sRight) := ⟨rfl, rfl, rfl, by decide +kernel, rfl, by decide +kernel, by decide +kernel⟩
theorem at4 {N : Addr → Prop} {H : Hp} {x v u z : V} {dx d du dz : PyData} (h : DvAll N H [x, v, u, z] [dx, d, du, dz]) : Dv N H x dx ∧ Dv N H v d ∧ Dv N H u du ∧ Dv N H z dz := by
  cases h with
  | cons a h => cases h with
    | cons b h => cases h with
      | cons c h => cases h with
        | cons e h => exact ⟨a, b, c, e⟩
theorem ok_right {f f4 g1 g2 g3 g4 g5 g6 g7 g8 g9 CB CW CM CA CD CN e0 e2 e3 e5 e6 e7 c PT : Addr} {fd4 gd1 gd2 gd3 gd4 gd5 gd6 gd7 gd8 gd9 fde0 fde2 fde3 fde5 fde0' fde6 fde7 : FuncData} {dV kV doc pm ct oc : Value} {an od : Option Addr} {osl : Array (Option Value)}
    (lkR : K.lookup f = some ⟨oc, od, .func (PySem.W.fnOf "_law_right" "_law_right" (defArgs sRight) (defBody sRight) (defScope sRight) dV kV doc pm an (.ref c) ct), osl⟩) (hcR : PySem.W.codeIn K (.ref c) "_law_right" = true) (TB : TabB base mg c PT)
    (EX : Exc K mg CB CW CM CA e0 e2 e3 e5 fde0 fde2 fde3 fde5) (ED : VD.Exc K mg CB CD CW CM e0 e6 fde0' fde6) (EN : VN.Exc K mg CB CN CW CM e0 e7 fde0' fde7) (MO : More K CW CM CA CD CN)
    (A4 : At K mg "_law_four" sFour ["_law_box_here"] f4 fd4) (G4 : FnOk P w K mg base CX0 7 f4 fd4 ["_law_box_here"] spFour) (AT : At K mg "_law_told" sTold ["_law_ask"] g1 gd1) (AD : At K mg "_law_due" sDue ["_law_size", "_law_plan_here", "_law_more", "_law_spot"] g2 gd2) (GD : G.FnG P w K mg base 5 g2 gd2 ["_law_size", "_law_plan_here", "_law_more", "_law_spot"] spDue)
    (AK : At K mg "kernel" sKernel ["width", "masks"] g3 gd3) (GK : FnOk P w K mg base (L2.CX P w) 6 g3 gd3 ["width", "masks"] (spTwo CW CM CD CN)) (AC : At K mg "bank_count" sBankCount ["width", "masks"] g4 gd4) (GC : FnOk P w K mg base (L2.CX P w) 6 g4 gd4 ["width", "masks"] (spTwo CW CM CD CN))
    (AO : At K mg "completed" sComp ["width", "masks"] g5 gd5) (GO : FnOk P w K mg base (L2.CX P w) 6 g5 gd5 ["width", "masks"] (spTwo CW CM CD CN)) (AI : At K mg "inverse" sInv ["width", "masks"] g6 gd6) (GI : FnOk P w K mg base (L2.CX P w) 6 g6 gd6 ["width", "masks"] (spTwo CW CM CD CN))
    (AJ : AtV K mg g7 gd7) (GJ : FnR P w K mg base (L2.CX P w) 6 g7 (spJV CW CM)) (AB : At K mg "bank" sBank ["width", "masks", "address"] g8 gd8) (GB : FnOk P w K mg base (L2.CX P w) 6 g8 gd8 ["width", "masks", "address"] (spBankA CW CM CA)) (AR : At K mg "recoding" sRecg ["width", "masks", "others"] g9 gd9) (GR : FnOk P w K mg base (L2.CX P w) 6 g9 gd9 ["width", "masks", "others"] (spRecA CW CM)) (T : Txt K mg) :
    G.FnG P w K mg base 10 f (PySem.W.fnOf "_law_right" "_law_right" (defArgs sRight) (defBody sRight) (defScope sRight) dV kV doc pm an (.ref c) ct) ["_law_box_here"] (spRight PT) := by
  have hCm := AT.mg
  have hCk := AT.fn.kp
  have hCb := AT.bi
  obtain ⟨oc8, od8, kV8, doc8, pm8, an8, cdv8, ct8, osl8, efd8, lkC, hcC⟩ := AT.fn.ex
  subst efd8
  refine fnG_at lkR hcR scRight (fun vs H Q E h => ?_) (fun A outer s H vs Q E hga hr h => ?_)
  · obtain ⟨b, o, rfl, _⟩ := h
    rfl
  · obtain ⟨b, o, rfl, hb, B, tabs, k⟩ := h
    have hr5 : Room 5 _ := hr.mono (by decide)
    have hr4 : Room 4 _ := hr.mono (by decide)
    have hr7 : Room 7 _ := hr.mono (by decide)
    have hgu : (A.deeper (PyProof.Rows.envOfC "_law_right" (defScope sRight) s.heap.objs.size f (.ref c))).guards = some [] := hga
    refine ⟨_, (pss_cons (ps_for PassesOwn.never rfl (pi_range1 (by rfl) T.range (pa_cons pe_int pa_nil)) (pg_name (i := 1) scRight.nd rfl (Or.inl rfl)) (pss_cons (ps_asg (pe_call G4 hr7 (by rfl) A4.mg A4.fn.kp A4.bi .nil pass0 (pa_cons (pv 0) pa_nil)) (pg_tup rfl (pgs_cons (pg_name (i := 7) scRight.nd rfl (Or.inr rfl)) (pgs_cons (pg_name (i := 6) scRight.nd rfl (Or.inr rfl)) (pgs_cons (pg_name (i := 5) scRight.nd rfl (Or.inr rfl)) (pgs_cons (pg_name (i := 8) scRight.nd rfl (Or.inr rfl)) pgs_nil))))))
      (pss_cons (ps_par (i := 2) (j := 3) (by rfl) scRight.nd rfl rfl (by decide) rfl rfl (pa_cons (pe_callB (G.call_repr_any (k := 9) hgu hr) (by rfl) T.repr (by decide +kernel) (pa_cons (pe_tup (pa_cons (pv 7) (pa_cons (pv 6) (pa_cons (pv 5) (pa_cons (pv 8) pa_nil))))) pa_nil)) (pa_cons (G.pe_callG GD hgu hr5 (by rfl) AD.mg AD.fn.kp AD.bi .nil (pa_cons (pv 7) (pa_cons (pv 6) (pa_cons (pv 5) (pa_cons (pv 8) pa_nil))))) pa_nil)) (by rfl))
      (pss_cons (ps_set (i := 4) scRight.nd rfl (Or.inl rfl) (pe_lst (pa_cons (LamX.pe_lamcall (k := 7) (T := [(PT, qLam)]) (TT := TTold CW CM CA CD CN) (t := fun E => tCall (spTwo CW CM CD CN) [] E (tCons (tVar 7) (tCons (tVar 6) tNil))) (by rfl) hCm hCk lkC hcC hCb scTold rfl (Or.inl rfl) (told_gives EX ED EN MO T (hr.mono (by decide)) hgu) TB rfl (List.mem_singleton.mpr rfl) (fun p hp _ => by rw [List.mem_singleton.mp hp]; rfl) hr (LamX.lamS_by (by show LamX.lamSB (defScope sRight) _ = true; decide +kernel)) rfl (fun _ _ _ _ _ => rfl) (fun A outer s H E f c' hr' => by exact pe_call GK (hr'.mono (by decide)) (by rfl) AK.mg AK.fn.kp AK.bi .nil (passes_call (takes_of rfl rfl rfl rfl) fun _ _ _ _ h => h) (pa_cons (pv 7) (pa_cons (pv 6) pa_nil)))) pa_nil)))
      (pss_cons (ps_expr (pe_bm PySem.F.plainAttrs_list PySem.F.slot_list_append PySem.F.type_list_append mt_append (pv 4) (pa_cons (LamX.pe_lamcall (k := 7) (T := [(PT, qLam)]) (TT := TTold CW CM CA CD CN) (t := fun E => tCall (spTwo CW CM CD CN) [] E (tCons (tVar 7) (tCons (tVar 6) tNil))) (by rfl) hCm hCk lkC hcC hCb scTold rfl (Or.inl rfl) (told_gives EX ED EN MO T (hr.mono (by decide)) hgu) TB rfl (List.mem_singleton.mpr rfl) (fun p hp _ => by rw [List.mem_singleton.mp hp]; rfl) hr (LamX.lamS_by (by show LamX.lamSB (defScope sRight) _ = true; decide +kernel)) rfl (fun _ _ _ _ _ => rfl) (fun A outer s H E f c' hr' => by exact pe_call GC (hr'.mono (by decide)) (by rfl) AC.mg AC.fn.kp AC.bi .nil (passes_call (takes_of rfl rfl rfl rfl) fun _ _ _ _ h => h) (pa_cons (pv 7) (pa_cons (pv 6) pa_nil)))) pa_nil)))
      (pss_cons (ps_expr (pe_bm PySem.F.plainAttrs_list PySem.F.slot_list_append PySem.F.type_list_append mt_append (pv 4) (pa_cons (LamX.pe_lamcall (k := 7) (T := [(PT, qLam)]) (TT := TTold CW CM CA CD CN) (t := fun E => tCall (spTwo CW CM CD CN) [] E (tCons (tVar 7) (tCons (tVar 6) tNil))) (by rfl) hCm hCk lkC hcC hCb scTold rfl (Or.inl rfl) (told_gives EX ED EN MO T (hr.mono (by decide)) hgu) TB rfl (List.mem_singleton.mpr rfl) (fun p hp _ => by rw [List.mem_singleton.mp hp]; rfl) hr (LamX.lamS_by (by show LamX.lamSB (defScope sRight) _ = true; decide +kernel)) rfl (fun _ _ _ _ _ => rfl) (fun A outer s H E f c' hr' => by exact pe_call GO (hr'.mono (by decide)) (by rfl) AO.mg AO.fn.kp AO.bi .nil (passes_call (takes_of rfl rfl rfl rfl) fun _ _ _ _ h => h) (pa_cons (pv 7) (pa_cons (pv 6) pa_nil)))) pa_nil)))
      (pss_cons (ps_expr (pe_bm PySem.F.plainAttrs_list PySem.F.slot_list_append PySem.F.type_list_append mt_append (pv 4) (pa_cons (LamX.pe_lamcall (k := 7) (T := [(PT, qLam)]) (TT := TTold CW CM CA CD CN) (t := fun E => tCall (spTwo CW CM CD CN) [] E (tCons (tVar 7) (tCons (tVar 6) tNil))) (by rfl) hCm hCk lkC hcC hCb scTold rfl (Or.inl rfl) (told_gives EX ED EN MO T (hr.mono (by decide)) hgu) TB rfl (List.mem_singleton.mpr rfl) (fun p hp _ => by rw [List.mem_singleton.mp hp]; rfl) hr (LamX.lamS_by (by show LamX.lamSB (defScope sRight) _ = true; decide +kernel)) rfl (fun _ _ _ _ _ => rfl) (fun A outer s H E f c' hr' => by exact pe_call GI (hr'.mono (by decide)) (by rfl) AI.mg AI.fn.kp AI.bi .nil (passes_call (takes_of rfl rfl rfl rfl) fun _ _ _ _ h => h) (pa_cons (pv 7) (pa_cons (pv 6) pa_nil)))) pa_nil)))
      (pss_cons (ps_expr (pe_bm PySem.F.plainAttrs_list PySem.F.slot_list_append PySem.F.type_list_append mt_append (pv 4) (pa_cons (LamX.pe_lamcall (k := 7) (T := [(PT, qLam)]) (TT := TTold CW CM CA CD CN) (t := fun E => G.tCallR (spJV CW CM) E (tCons (tVar 7) (tCons (tVar 6) tNil))) (by rfl) hCm hCk lkC hcC hCb scTold rfl (Or.inl rfl) (told_gives EX ED EN MO T (hr.mono (by decide)) hgu) TB rfl (List.mem_singleton.mpr rfl) (fun p hp _ => by rw [List.mem_singleton.mp hp]; rfl) hr (LamX.lamS_by (by show LamX.lamSB (defScope sRight) _ = true; decide +kernel)) rfl (fun _ _ _ _ _ => rfl) (fun A outer s H E f c' hr' => by exact G.pe_callR (E := E) GJ (hr'.mono (by decide)) (by rfl) AJ.mg AJ.fn.kp (passes_call (takes_of rfl rfl rfl rfl) fun _ _ _ _ h => h) (pa_cons (pv 7) (pa_cons (pv 6) pa_nil)))) pa_nil)))
      (pss_cons (ps_if (PW.pt (pw_or (pt_cmpR (G.op_neLS hr.units) (pv 4) (pe_op op_rep (pe_lst (pa_cons (pe_ix ix_list (pv 3) pe_int (fun _ _ => rfl)) pa_nil)) pe_int) (nomark _)) (pw_or1 (pt_cmpR op_ne (LamX.pe_lamcall (k := 7) (T := [(PT, qLam)]) (TT := TTold CW CM CA CD CN) (t := fun E => tCall (spBankA CW CM CA) [] E (tCons (tVar 7) (tCons (tVar 6) (tCons (tVar 8) tNil)))) (by rfl) hCm hCk lkC hcC hCb scTold rfl (Or.inl rfl) (told_gives EX ED EN MO T (hr.mono (by decide)) hgu) TB rfl (List.mem_singleton.mpr rfl) (fun p hp _ => by rw [List.mem_singleton.mp hp]; rfl) hr (LamX.lamS_by (by show LamX.lamSB (defScope sRight) _ = true; decide +kernel)) rfl (fun _ _ _ _ _ => rfl) (fun A outer s H E f c' hr' => by exact pe_call GB (hr'.mono (by decide)) (by rfl) AB.mg AB.fn.kp AB.bi .nil (passes_call (takes_of rfl rfl rfl rfl) fun _ _ _ _ h => h) (pa_cons (pv 7) (pa_cons (pv 6) (pa_cons (pv 8) pa_nil))))) (pe_ix ix_list (pv 3) pe_int (fun _ _ => rfl)) (nomark _))))) (pss_one (ps_ret pe_bl)) pss_nil)
      (pss_one (ps_if (PW.pt (pw_or (pt_cmpR op_ne (LamX.pe_lamcall (k := 7) (T := [(PT, qLam)]) (TT := TTold CW CM CA CD CN) (t := fun E => tCall (spRecA CW CM) [] E (tCons (tVar 7) (tCons (tVar 6) (tCons (tVar 5) tNil)))) (by rfl) hCm hCk lkC hcC hCb scTold rfl (Or.inl rfl) (told_gives EX ED EN MO T (hr.mono (by decide)) hgu) TB rfl (List.mem_singleton.mpr rfl) (fun p hp _ => by rw [List.mem_singleton.mp hp]; rfl) hr (LamX.lamS_by (by show LamX.lamSB (defScope sRight) _ = true; decide +kernel)) rfl (fun _ _ _ _ _ => rfl) (fun A outer s H E f c' hr' => by exact pe_call GR (hr'.mono (by decide)) (by rfl) AR.mg AR.fn.kp AR.bi .nil (passes_call (takes_of rfl rfl rfl rfl) fun _ _ _ _ h => h) (pa_cons (pv 7) (pa_cons (pv 6) (pa_cons (pv 5) pa_nil))))) (pe_ix ix_list (pv 3) pe_int (fun _ _ => rfl)) (nomark _)) (pw_or1 (pt_cmpR op_ne (pe_callB (G.call_repr_any (k := 9) hgu hr) (by rfl) T.repr (by decide +kernel) (pa_cons (pe_tup (pa_cons (pv 7) (pa_cons (pv 6) (pa_cons (pv 5) (pa_cons (pv 8) pa_nil))))) pa_nil)) (pv 2) (nomark _))))) (pss_one (ps_ret pe_bl)) pss_nil)))))))))))
      (pss_one (ps_ret pe_bl))), ?_⟩
    refine ⟨_, rfl, by decide, by decide, for_range (lo := 0) (n := 25) (fun i σ H' => ∃ (o1 : HO) (t1 t2 t3 t4 t5 t6 t7 t8 : Option V), σ = [some (.ref b), t1, t2, t3, t4, t5, t6, t7, t8] ∧ SamN b H H' ∧ H' b = some o1 ∧ BoxO (1000 * (i : Int)) o1 ∧ Tabs [(PT, qLam)] H')
      ⟨o, none, none, none, none, none, none, none, none, rfl, SamN.of (Sam.refl b H), hb, by simpa using B, tabs⟩ ?_ ?_⟩
    · rintro i σ H1 hi ⟨o1, t1, t2, t3, t4, t5, t6, t7, t8, rfl, sm1, hb1, B1, tb1⟩
      obtain ⟨x0, x1, x2, eo1, _⟩ := id B1
      refine ⟨_, rfl, b, _, o1, rfl, hb1, B1, by omega, fun r x v u z dx d du dz H2 o2 S2 hb2 B2 hr2 all => ?_⟩
      obtain ⟨hx, wx⟩ := all x dx (by simp)
      obtain ⟨hv, wv⟩ := all v d (by simp)
      obtain ⟨hu, wu⟩ := all u du (by simp)
      obtain ⟨hz, wz⟩ := all z dz (by simp)
      have sm2 : SamN b H H2 := sm1.trans (SamN.of S2)
      have tb2 : Tabs [(PT, qLam)] H2 := tabs_sam (by rw [hb1, eo1]) S2 tb1
      have al2 : DvAll (fun a => a ≠ b) H2 [x, v, u, z] [dx, d, du, dz] := .cons hx (.cons hv (.cons hu (.cons hz .nil)))
      have up : ∀ {d : PyData}, Wf 145 40 3000 d → Wf 290 50 30000 d := fun h => h.mono (by decide) (by decide) (by decide)
      have wx' := up wx
      have wv' := up wv
      have wu' := up wu
      have wz' := up wz
      have wt : Wf 145 41 12004 (.tuple [dx, d, du, dz]) := G.Wf.tup (G.WfA.cons wx (G.WfA.cons wv (G.WfA.cons wu (G.WfA.cons wz (G.WfA.nil : WfA 145 40 0 [])))))
      obtain ⟨g1, g2, g3⟩ := wt.shows (by decide) (by decide) (by decide)
      obtain ⟨y0, y1, y2, eo2, _⟩ := id B2
      have ntb : ∀ ps, o2 ≠ .tbl ps := fun ps e => by
        rw [eo2] at e
        cases e
      refine ⟨r, _, rfl, SqT.of hr2, rfl, _, _, rfl, _, _, rfl, _, _, rfl, _, _, rfl, rfl, ?_⟩
      refine ⟨_, rfl, _, rfl, _, rfl, _, rfl, by show 4 ≤ sizeLine; decide, fun e he => ?_⟩
      have S3 : Same H2 (upd H2 e (.tup [x, v, u, z])) := keep_new (Same.refl _) he
      refine ⟨fun _ => True, _, .tuple [dx, d, du, dz], rfl, .tup trivial upd_same ((al2.to fun _ _ _ _ => trivial).same S3), g1, g2, g3, ?_⟩
      have al3 := al2.same S3
      have hb3 := S3 _ _ hb2
      have sm3 := sm2.trans (SamN.same S3)
      have tb3 := tb2.ext S3
      generalize upd H2 e (.tup [x, v, u, z]) = H3 at al3 hb3 sm3 tb3 ⊢
      obtain ⟨a1, a2, a3, a4⟩ := at4 al3
      refine ⟨_, rfl, _, rfl, _, rfl, _, rfl, _, x, v, u, z, dx, d, du, dz, rfl, ⟨a1, wx⟩, ⟨a2, wv⟩, ⟨a3, wu⟩, ⟨a4, wz⟩, fun q H4 S4 hq4 => ⟨_, _, rfl, ?_⟩⟩
      have al4 := al3.same S4
      have hb4 := S4 _ _ hb3
      have sm4 := sm3.trans (SamN.same S4)
      have tb4 := tb3.ext S4
      clear al2 al3 a1 a2 a3 a4 hx hv hu hz all hb2 hb3 sm2 sm3 tb2 tb3 hr2
      refine ⟨tb4, fun H5 x5 tb5 => ?_⟩
      have al5 := al4.keep (H' := H5) fun c u1 _ n e => x5 c u1 e n
      have hq5 := x5 _ _ hq4 nt_lst
      have hb5 := x5 _ _ hb4 ntb
      have sm5 := sm4.trans (SamN.ext x5)
      obtain ⟨a1, a2, _, _⟩ := at4 al5
      refine told_two rfl rfl a1 wx' a2 wv' fun H6 s6 => ?_
      refine ⟨by show 1 ≤ sizeLine; decide, fun l hl => ?_⟩
      have nlb : l ≠ b := (ne_of_none (s6 _ _ hb5) hl).symm
      have nlq : l ≠ q := (ne_of_none (s6 _ _ hq5) hl).symm
      have s7 : Same H6 (upd H6 l (.lst [V.str (due1 dx d)])) := keep_new (Same.refl _) hl
      have st : ∃ L : List Str, L = [due1 dx d] ∧ (upd H6 l (.lst [V.str (due1 dx d)])) l = some (.lst (L.map V.str)) := ⟨_, rfl, upd_same⟩
      have al7 : DvAll (fun a => a ≠ b ∧ a ≠ l) (upd H6 l (.lst [V.str (due1 dx d)])) [x, v, u, z] [dx, d, du, dz] := ((al5.same s6).to fun c u1 e n => ⟨n, ne_of_none e hl⟩).same s7
      have hq7 := s7 _ _ (s6 _ _ hq5)
      have hb7 := s7 _ _ (s6 _ _ hb5)
      have sm7 := sm5.trans (SamN.same (s6.trans s7))
      have tb7 := tb5.ext (s6.trans s7)
      have hl0 : (upd H6 l (.lst [V.str (due1 dx d)])) l = some (.lst [V.str (due1 dx d)]) := upd_same
      have fl : ∀ w1, (∀ ps, w1 ≠ .tbl ps) → H l ≠ some w1 := fun w1 nt e => by
        have y := (sm5.trans (SamN.same s6)) l w1 nlb nt e
        rw [hl] at y
        cases y
      generalize upd H6 l (.lst [V.str (due1 dx d)]) = J0 at al7 hq7 hb7 sm7 tb7 hl0 ⊢
      clear st s7 s6 al5 al4 hq5 hq4 hb5 hb4 sm5 sm4 tb5 tb4 a1 a2
      refine ⟨_, rfl, .inl ⟨rfl, _, SqL.of hl0⟩, tb7, fun K1 xk1 tk1 => ?_⟩
      have ak1 := DvAll.keep (H' := K1) al7 fun c u1 _ n e => xk1 c u1 e n
      obtain ⟨a1, a2, _, _⟩ := at4 ak1
      refine told_two rfl rfl a1 wx' a2 wv' fun L1 sl1 => ?_
      have hl1 := sl1 _ _ (xk1 _ _ hl0 nt_lst)
      refine ⟨l, _, _, rfl, rfl, hl1, by show 1 < sizeLine; decide, ?_⟩
      have alk1 : DvAll (fun a => a ≠ b ∧ a ≠ l) (upd L1 l (.lst ([V.str (due1 dx d)] ++ [V.str (due1 dx d)]))) [x, v, u, z] [dx, d, du, dz] := (ak1.same sl1).keep fun c u1 n _ e => (upd_ne n.2).trans e
      have hqk1 : (upd L1 l (.lst ([V.str (due1 dx d)] ++ [V.str (due1 dx d)]))) q = _ := (upd_ne nlq.symm).trans (sl1 _ _ (xk1 _ _ hq7 nt_lst))
      have hbk1 : (upd L1 l (.lst ([V.str (due1 dx d)] ++ [V.str (due1 dx d)]))) b = some o2 := (upd_ne nlb.symm).trans (sl1 _ _ (xk1 _ _ hb7 ntb))
      have smk1 : SamN b H (upd L1 l (.lst ([V.str (due1 dx d)] ++ [V.str (due1 dx d)]))) := fun c u1 n1 nt e => (upd_ne (show c ≠ l from fun y => fl u1 nt (by rw [← y]; exact e))).trans (sl1 _ _ (xk1 _ _ (sm7 c u1 n1 nt e) nt))
      have tbk1 : Tabs [(PT, qLam)] (upd L1 l (.lst ([V.str (due1 dx d)] ++ [V.str (due1 dx d)]))) := tabs_sam hl1 Sam.upd (tk1.ext sl1)
      have hlk1 : (upd L1 l (.lst ([V.str (due1 dx d)] ++ [V.str (due1 dx d)]))) l = some (.lst [V.str (due1 dx d), V.str (due1 dx d)]) := upd_same
      generalize (upd L1 l (.lst ([V.str (due1 dx d)] ++ [V.str (due1 dx d)]))) = J1 at alk1 hqk1 hbk1 smk1 tbk1 hlk1 ⊢
      clear a1 a2 ak1 al7 hq7 hb7 sm7 tb7 hl0 hl1
      refine ⟨_, rfl, .inl ⟨rfl, _, SqL.of hlk1⟩, tbk1, fun K2 xk2 tk2 => ?_⟩
      have ak2 := DvAll.keep (H' := K2) alk1 fun c u1 _ n e => xk2 c u1 e n
      obtain ⟨a1, a2, _, _⟩ := at4 ak2
      refine told_two rfl rfl a1 wx' a2 wv' fun L2 sl2 => ?_
      have hl2 := sl2 _ _ (xk2 _ _ hlk1 nt_lst)
      refine ⟨l, _, _, rfl, rfl, hl2, by show 2 < sizeLine; decide, ?_⟩
      have alk2 : DvAll (fun a => a ≠ b ∧ a ≠ l) (upd L2 l (.lst ([V.str (due1 dx d), V.str (due1 dx d)] ++ [V.str (due1 dx d)]))) [x, v, u, z] [dx, d, du, dz] := (ak2.same sl2).keep fun c u1 n _ e => (upd_ne n.2).trans e
      have hqk2 : (upd L2 l (.lst ([V.str (due1 dx d), V.str (due1 dx d)] ++ [V.str (due1 dx d)]))) q = _ := (upd_ne nlq.symm).trans (sl2 _ _ (xk2 _ _ hqk1 nt_lst))
      have hbk2 : (upd L2 l (.lst ([V.str (due1 dx d), V.str (due1 dx d)] ++ [V.str (due1 dx d)]))) b = some o2 := (upd_ne nlb.symm).trans (sl2 _ _ (xk2 _ _ hbk1 ntb))
      have smk2 : SamN b H (upd L2 l (.lst ([V.str (due1 dx d), V.str (due1 dx d)] ++ [V.str (due1 dx d)]))) := fun c u1 n1 nt e => (upd_ne (show c ≠ l from fun y => fl u1 nt (by rw [← y]; exact e))).trans (sl2 _ _ (xk2 _ _ (smk1 c u1 n1 nt e) nt))
      have tbk2 : Tabs [(PT, qLam)] (upd L2 l (.lst ([V.str (due1 dx d), V.str (due1 dx d)] ++ [V.str (due1 dx d)]))) := tabs_sam hl2 Sam.upd (tk2.ext sl2)
      have hlk2 : (upd L2 l (.lst ([V.str (due1 dx d), V.str (due1 dx d)] ++ [V.str (due1 dx d)]))) l = some (.lst [V.str (due1 dx d), V.str (due1 dx d), V.str (due1 dx d)]) := upd_same
      generalize (upd L2 l (.lst ([V.str (due1 dx d), V.str (due1 dx d)] ++ [V.str (due1 dx d)]))) = J2 at alk2 hqk2 hbk2 smk2 tbk2 hlk2 ⊢
      clear a1 a2 ak2 alk1 hqk1 hbk1 smk1 tbk1 hlk1 hl2
      refine ⟨_, rfl, .inl ⟨rfl, _, SqL.of hlk2⟩, tbk2, fun K3 xk3 tk3 => ?_⟩
      have ak3 := DvAll.keep (H' := K3) alk2 fun c u1 _ n e => xk3 c u1 e n
      obtain ⟨a1, a2, _, _⟩ := at4 ak3
      refine told_two rfl rfl a1 wx' a2 wv' fun L3 sl3 => ?_
      have hl3 := sl3 _ _ (xk3 _ _ hlk2 nt_lst)
      refine ⟨l, _, _, rfl, rfl, hl3, by show 3 < sizeLine; decide, ?_⟩
      have alk3 : DvAll (fun a => a ≠ b ∧ a ≠ l) (upd L3 l (.lst ([V.str (due1 dx d), V.str (due1 dx d), V.str (due1 dx d)] ++ [V.str (due1 dx d)]))) [x, v, u, z] [dx, d, du, dz] := (ak3.same sl3).keep fun c u1 n _ e => (upd_ne n.2).trans e
      have hqk3 : (upd L3 l (.lst ([V.str (due1 dx d), V.str (due1 dx d), V.str (due1 dx d)] ++ [V.str (due1 dx d)]))) q = _ := (upd_ne nlq.symm).trans (sl3 _ _ (xk3 _ _ hqk2 nt_lst))
      have hbk3 : (upd L3 l (.lst ([V.str (due1 dx d), V.str (due1 dx d), V.str (due1 dx d)] ++ [V.str (due1 dx d)]))) b = some o2 := (upd_ne nlb.symm).trans (sl3 _ _ (xk3 _ _ hbk2 ntb))
      have smk3 : SamN b H (upd L3 l (.lst ([V.str (due1 dx d), V.str (due1 dx d), V.str (due1 dx d)] ++ [V.str (due1 dx d)]))) := fun c u1 n1 nt e => (upd_ne (show c ≠ l from fun y => fl u1 nt (by rw [← y]; exact e))).trans (sl3 _ _ (xk3 _ _ (smk2 c u1 n1 nt e) nt))
      have tbk3 : Tabs [(PT, qLam)] (upd L3 l (.lst ([V.str (due1 dx d), V.str (due1 dx d), V.str (due1 dx d)] ++ [V.str (due1 dx d)]))) := tabs_sam hl3 Sam.upd (tk3.ext sl3)
      have hlk3 : (upd L3 l (.lst ([V.str (due1 dx d), V.str (due1 dx d), V.str (due1 dx d)] ++ [V.str (due1 dx d)]))) l = some (.lst [V.str (due1 dx d), V.str (due1 dx d), V.str (due1 dx d), V.str (due1 dx d)]) := upd_same
      generalize (upd L3 l (.lst ([V.str (due1 dx d), V.str (due1 dx d), V.str (due1 dx d)] ++ [V.str (due1 dx d)]))) = J3 at alk3 hqk3 hbk3 smk3 tbk3 hlk3 ⊢
      clear a1 a2 ak3 alk2 hqk2 hbk2 smk2 tbk2 hlk2 hl3
      refine ⟨_, rfl, .inl ⟨rfl, _, SqL.of hlk3⟩, tbk3, fun K4 xk4 tk4 => ?_⟩
      have ak4 := DvAll.keep (H' := K4) alk3 fun c u1 _ n e => xk4 c u1 e n
      obtain ⟨a1, a2, _, _⟩ := at4 ak4
      refine told_join rfl rfl a1 wx' a2 wv' fun L4 sl4 => ?_
      have hl4 := sl4 _ _ (xk4 _ _ hlk3 nt_lst)
      refine ⟨l, _, _, rfl, rfl, hl4, by show 4 < sizeLine; decide, ?_⟩
      have alk4 : DvAll (fun a => a ≠ b ∧ a ≠ l) (upd L4 l (.lst ([V.str (due1 dx d), V.str (due1 dx d), V.str (due1 dx d), V.str (due1 dx d)] ++ [V.str (due1 dx d)]))) [x, v, u, z] [dx, d, du, dz] := (ak4.same sl4).keep fun c u1 n _ e => (upd_ne n.2).trans e
      have hqk4 : (upd L4 l (.lst ([V.str (due1 dx d), V.str (due1 dx d), V.str (due1 dx d), V.str (due1 dx d)] ++ [V.str (due1 dx d)]))) q = _ := (upd_ne nlq.symm).trans (sl4 _ _ (xk4 _ _ hqk3 nt_lst))
      have hbk4 : (upd L4 l (.lst ([V.str (due1 dx d), V.str (due1 dx d), V.str (due1 dx d), V.str (due1 dx d)] ++ [V.str (due1 dx d)]))) b = some o2 := (upd_ne nlb.symm).trans (sl4 _ _ (xk4 _ _ hbk3 ntb))
      have smk4 : SamN b H (upd L4 l (.lst ([V.str (due1 dx d), V.str (due1 dx d), V.str (due1 dx d), V.str (due1 dx d)] ++ [V.str (due1 dx d)]))) := fun c u1 n1 nt e => (upd_ne (show c ≠ l from fun y => fl u1 nt (by rw [← y]; exact e))).trans (sl4 _ _ (xk4 _ _ (smk3 c u1 n1 nt e) nt))
      have tbk4 : Tabs [(PT, qLam)] (upd L4 l (.lst ([V.str (due1 dx d), V.str (due1 dx d), V.str (due1 dx d), V.str (due1 dx d)] ++ [V.str (due1 dx d)]))) := tabs_sam hl4 Sam.upd (tk4.ext sl4)
      have hlk4 : (upd L4 l (.lst ([V.str (due1 dx d), V.str (due1 dx d), V.str (due1 dx d), V.str (due1 dx d)] ++ [V.str (due1 dx d)]))) l = some (.lst [V.str (due1 dx d), V.str (due1 dx d), V.str (due1 dx d), V.str (due1 dx d), V.str (due1 dx d)]) := upd_same
      generalize (upd L4 l (.lst ([V.str (due1 dx d), V.str (due1 dx d), V.str (due1 dx d), V.str (due1 dx d)] ++ [V.str (due1 dx d)]))) = J4 at alk4 hqk4 hbk4 smk4 tbk4 hlk4 ⊢
      clear a1 a2 ak4 alk3 hqk3 hbk3 smk3 tbk3 hlk3 hl4
      refine ⟨_, rfl, _, rfl, q, _, 0, _, rfl, rfl, SqL.of hqk4, rfl, by show 1 ≤ sizeLine; decide, fun m hm => ?_⟩
      refine ⟨m, 5, [V.str (due1 dx d)], rfl, rfl, upd_same, by decide, by decide, by show 1 * 5 ≤ sizeLine; decide, fun m2 hm2 => ?_⟩
      have SM : Same J4 (upd (upd J4 m (.lst [V.str (due1 dx d)])) m2 (.lst (List.replicate (5 : Int).toNat [V.str (due1 dx d)]).flatten)) := keep_new (keep_new (Same.refl _) hm) hm2
      refine ⟨l, m2, [due1 dx d, due1 dx d, due1 dx d, due1 dx d, due1 dx d], rfl, rfl, SM _ _ hlk4, upd_same, _, rfl, iteF ?_⟩
      have alM := alk4.same SM
      have hqM := SM _ _ hqk4
      have hbM := SM _ _ hbk4
      have smM := smk4.trans (SamN.same SM)
      have tbM := tbk4.ext SM
      generalize (upd (upd J4 m (.lst [V.str (due1 dx d)])) m2 (.lst (List.replicate (5 : Int).toNat [V.str (due1 dx d)]).flatten)) = HM at alM hqM hbM smM tbM ⊢
      refine ⟨tbM, fun HN xN tbN => ?_⟩
      have alN := DvAll.keep (H' := HN) alM fun c u1 _ n e => xN c u1 e n
      obtain ⟨a1, a2, _, a4⟩ := at4 alN
      refine told_bank rfl rfl rfl a1 wx' a2 wv' a4 wz' fun HO1 sO => ?_
      have hqO := sO _ _ (xN _ _ hqM nt_lst)
      refine ⟨_, rfl, q, _, 1, _, rfl, rfl, SqL.of hqO, rfl, rfl, _, rfl, iteFb (by rw [decide_eq_true rfl]; rfl) ?_⟩
      have alO := alN.same sO
      have hbO := sO _ _ (xN _ _ hbM ntb)
      have smO : SamN b H HO1 := (smM.trans (SamN.ext xN)).trans (SamN.same sO)
      refine ⟨tbN.ext sO, fun HP xP tbP => ?_⟩
      have alP := DvAll.keep (H' := HP) alO fun c u1 _ n e => xP c u1 e n
      obtain ⟨a1, a2, a3, _⟩ := at4 alP
      refine told_rec rfl rfl rfl a1 wx' a2 wv' a3 wu' fun HR sR => ?_
      have hqR := sR _ _ (xP _ _ hqO nt_lst)
      refine ⟨_, rfl, q, _, 2, _, rfl, rfl, SqL.of hqR, rfl, rfl, _, rfl, iteFb (by rw [decide_eq_true rfl]; rfl) ?_⟩
      refine ⟨_, rfl, _, rfl, _, rfl, _, rfl, by show 4 ≤ sizeLine; decide, fun e2 he2 => ?_⟩
      have SE : Same HR (upd HR e2 (.tup [x, v, u, z])) := keep_new (Same.refl _) he2
      refine ⟨fun _ => True, _, .tuple [dx, d, du, dz], rfl, .tup trivial upd_same (((alP.same sR).to fun _ _ _ _ => trivial).same SE), g1, g2, g3, _, rfl, rfl, _, rfl, iteFb (by rw [decide_eq_true rfl]; rfl) ?_⟩
      have SF := sR.trans SE
      exact ⟨o2, _, _, _, _, _, _, _, _, rfl, (smO.trans (SamN.ext xP)).trans (SamN.same SF), SF _ _ (xP _ _ hbO ntb), B2.mono (by omega), tbP.ext SF⟩
    · rintro σ H1 ⟨o1, t1, t2, t3, t4, t5, t6, t7, t8, rfl, sm1, hb1, B1, tb1⟩
      exact k _ sm1 tb1
end
end X1
set_option Elab.async false
set_option maxRecDepth 100000
set_option maxHeartbeats 4000000
set_option pp.maxSteps 600
namespace X1
open PySem L2
open LamX (Tabs TabS TabB CodeO ExtN)
theorem seqN {K : PySem.W.Frag} {H H' : Hp} {a : Addr} {xs : List V} (e : ExtN H H') (h : SqL K H a xs) : SqL K H' a xs := by
  rcases h with (h | ⟨o, h⟩) | h
  · exact .inl (.inl (e _ _ h fun ps z => by cases z))
  · exact .inl (.inr ⟨o, e _ _ h fun ps z => by cases z⟩)
  · exact .inr h
section
variable {P : Program} {w : World} {K : PySem.W.Frag} {mg : Str → Option Value} {base : Heap}
/-! ### law -/
def spLaw (K : PySem.W.Frag) (PT : Addr) : Sp := fun vs H Q _ => ∃ (a : Addr) (ns : List Int), vs = [.ref a] ∧ SqL K H a (ns.map V.int) ∧ ns.length ≤ 63 ∧ Tabs [(PT, qLam)] H ∧ ∀ H', Q (.bl true) H'
theorem scLaw : FnScope ["_law_script", "_law_k"] ["_law_script"] (defScope sLaw) := ⟨rfl, rfl, rfl, by decide +kernel, rfl, by decide +kernel, by decide +kernel⟩
theorem ok_law {f fR fB PT : Addr} {fd fdR fdB : FuncData} (A0 : Fun K "law" "law" sLaw f fd) (mR : mg "_law_right" = some (.ref fR)) (kR : PySem.W.keepIn K (.ref fR) = true) (bR : Binds K fdR ["_law_box_here"] []) (AB : At K mg "_law_box" sBox ["_law_script", "_law_k"] fB fdB)
    (GR : G.FnG P w K mg base 10 fR fdR ["_law_box_here"] (spRight PT)) (T : Txt K mg) : G.FnG P w K mg base 11 f fd ["_law_script"] (spLaw K PT) := by
  have GB : FnOk P w K mg base CX0 1 fB fdB ["_law_script", "_law_k"] (spBox K) := ok_box AB T
  refine G.okG A0 scLaw (fun vs H Q E h => ?_) (fun cdv A outer s H vs Q E hga hr h => ?_)
  · obtain ⟨a, ns, rfl, _⟩ := h
    rfl
  · obtain ⟨a, ns, rfl, hS, hl, tabs, k⟩ := h
    have hr1 : Room 1 _ := hr.mono (by decide)
    have hgu : (A.deeper (PyProof.Rows.envOfC "law" (defScope sLaw) s.heap.objs.size f cdv)).guards = some [] := hga
    refine ⟨_, pss_one (ps_ret (pe_callB (cr_all rfl) (by rfl) T.all (by decide +kernel) (pa_cons (pe_lc (own := [("_law_k", 1)]) (g := gName 1) (tt := tYes) rfl scLaw.nd (pi_range1 (by rfl) T.range (pa_cons (pe_callB (call_max2 rfl) (by rfl) T.max (by decide +kernel) (pa_cons pe_int (pa_cons (pe_callB (call_min2 rfl) (by rfl) T.min (by decide +kernel) (pa_cons (pe_callB call_len_seq (by rfl) T.len PySem.boot_len (pa_cons (pv 0) pa_nil)) (pa_cons pe_int pa_nil))) pa_nil))) pa_nil)) (blkOk_by (N := ["_law_script", "_law_k"]) (sc := defScope sLaw) (by decide +kernel)) (fun _ _ _ _ _ => pg_name (i := 1) scLaw.nd rfl (Or.inl rfl)) (fun _ _ _ _ _ => pts_nil) (fun _ _ _ _ _ => G.pe_callG GR hgu hr (by rfl) mR kR bR .nil (pa_cons (pe_call GB hr1 (by rfl) AB.mg AB.fn.kp AB.bi .nil pass0 (pa_cons (pv 0) (pa_cons (pv 1) pa_nil))) pa_nil))) pa_nil))), ?_⟩
    refine ⟨_, rfl, a, _, rfl, .inl hS, _, _, rfl, _, _, rfl, ?_⟩
    rw [List.length_map]
    refine ⟨_, rfl, ?_, ?_, ?_⟩
    · show -(2 ^ 62) ≤ (if (if (3 : Int) < (ns.length : Int) then (3 : Int) else (ns.length : Int)) > 1 then (if (3 : Int) < (ns.length : Int) then (3 : Int) else (ns.length : Int)) else 1)
      omega
    · show (if (if (3 : Int) < (ns.length : Int) then (3 : Int) else (ns.length : Int)) > 1 then (if (3 : Int) < (ns.length : Int) then (3 : Int) else (ns.length : Int)) else 1) < 2 ^ 62
      omega
    intro D hD
    refine lc_range (lo := 0) (fun i H' => ExtN H H' ∧ Tabs [(PT, qLam)] H' ∧ H' D = some (.lst ((List.replicate i true).map V.bl))) ⟨fun c o e _ => by rw [upd_ne (ne_of_none e hD)]; exact e, tabs.ext (fun c o e => by rw [upd_ne (ne_of_none e hD)]; exact e), upd_same⟩ ?_ ?_
    · rintro i H2 hi ⟨s2, tb2, hd⟩
      have hi3 : i < 3 := by
        have hi' : i < ((if (if (3 : Int) < (ns.length : Int) then (3 : Int) else (ns.length : Int)) > 1 then (if (3 : Int) < (ns.length : Int) then (3 : Int) else (ns.length : Int)) else 1)).toNat := hi
        omega
      refine ⟨rfl, yes (iteT ?_)⟩
      refine ⟨_, rfl, _, rfl, a, ns, i, by rw [Int.zero_add]; rfl, seqN s2 hS, by omega, fun b o hb B => ?_⟩
      have nDb : D ≠ b := ne_of_none hd hb
      refine ⟨b, o, rfl, upd_same, B, tb2.ext (fun c u e => new_at e hb), fun H3 s3 tb3 => ?_⟩
      have hD3 : H3 D = some (.lst ((List.replicate i true).map V.bl)) := s3 D _ nDb nt_lst ((upd_ne nDb).trans hd)
      refine ⟨_, hD3, ?_, fun c u e nt => ?_, tabs_sam hD3 Sam.upd tb3, ?_⟩
      · rw [List.length_map, List.length_replicate]
        exact Nat.lt_trans hi3 (by decide)
      · have ncD : c ≠ D := ne_of_none e hD
        have e1 := s2 c u e nt
        have ncb : c ≠ b := ne_of_none e1 hb
        rw [upd_ne ncD]
        exact s3 c u ncb nt ((upd_ne ncb).trans e1)
      · rw [upd_same, List.replicate_succ', List.map_append]
        rfl
    · rintro H2 ⟨s2, tb2, hd⟩
      refine ⟨D, _, rfl, SqL.of hd, ?_⟩
      rw [show ∀ j : Nat, (List.replicate j true).all id = true from fun j => by simp]
      exact k H2
end
end X1
set_option Elab.async false
set_option maxRecDepth 100000
set_option maxHeartbeats 8000000
set_option pp.maxSteps 600
namespace X1
open PySem L2
open LamX (Tabs TabS TabB CodeO ExtN)
open G (spInit ClsFn FunD KxC)
theorem tab_in {K : PySem.W.Frag} {x : Str} {f c P : Addr} {oc e : Value} {od dd : Option Addr} {fd : FuncData} {sl sl2 : Array (Option Value)} {vs : Array Value} (a : PySem.W.nsIn K mainGlobals x = some (some (.ref f))) (l : K.lookup f = some ⟨oc, od, .func fd, sl⟩) (hc : fd.code = .ref c)
    (lc : K.lookup c = some ⟨e, dd, .fields vs, sl2⟩) (lp : vs[11]? = some (.ref P)) : PySem.W.tabIn K x = some (c, P) := by
  unfold PySem.W.tabIn
  rw [a]
  dsimp only
  rw [l]
  dsimp only
  rw [hc]
  dsimp only
  rw [lc]
  dsimp only
  rw [lp]
theorem all_mk {l : PySem.W.OpenLaw} {w : World} {K : PySem.W.Frag} {h : Heap} {mg : Str → Option Value} {fa fin fiw f0 f1 f2 f3 f4 f5 f6 f7 f8 f9 f10 f11 f12 f13 f14 f15 f16 f17 f18 f19 f20 f21 f22 f23 f24 f25 f26 f27 f28 f29 f30 f31 f32 f33 f34 f35 f36 f37 f38 CB CW CM CA CD CN e0 e2 e3 e5 e6 e7 cc PT TD : Addr} {pq : Program} (X : K.In h) (Gn : h.Ns mainGlobals mg) (hfa : mg "law" = some (.ref fa)) (fresh : ∀ y, ((PyProof.Rows.recsOf pq).find? fun e => e.name == y).isSome = true → G.Fresh K y h) (isr : ((PyProof.Rows.recsOf pq).find? fun e => e.name == ("_law_right" : Str)).isSome = true)
    {od0 an0 od1 an1 od2 an2 od3 an3 od4 an4 od5 an5 od6 an6 od7 an7 od8 an8 od9 an9 od10 an10 od11 an11 od12 an12 od13 an13 od14 an14 od15 an15 od16 an16 od17 an17 od18 an18 od19 an19 od20 an20 od21 an21 od22 an22 od23 an23 od24 an24 od25 an25 od26 an26 od27 an27 od28 an28 od29 an29 od30 an30 od31 an31 od32 an32 od33 an33 od34 an34 od35 an35 od36 an36 od37 an37 od38 an38 : Option Addr} {sl0 sl1 sl2 sl3 sl4 sl5 sl6 sl7 sl8 sl9 sl10 sl11 sl12 sl13 sl14 sl15 sl16 sl17 sl18 sl19 sl20 sl21 sl22 sl23 sl24 sl25 sl26 sl27 sl28 sl29 sl30 sl31 sl32 sl33 sl34 sl35 sl36 sl37 sl38 : Array (Option Value)} {oc0 kV0 dc0 pm0 cd0 ct0 oc1 kV1 dc1 pm1 cd1 ct1 oc2 kV2 dc2 pm2 cd2 ct2 oc3 kV3 dc3 pm3 cd3 ct3 oc4 kV4 dc4 pm4 cd4 ct4 oc5 kV5 dc5 pm5 cd5 ct5 oc6 kV6 dc6 pm6 cd6 ct6 oc7 kV7 dc7 pm7 cd7 ct7 oc8 kV8 dc8 pm8 cd8 ct8 oc9 kV9 dc9 pm9 cd9 ct9 oc10 kV10 dc10 pm10 cd10 ct10 oc11 kV11 dc11 pm11 cd11 ct11 oc12 kV12 dc12 pm12 cd12 ct12 oc13 kV13 dc13 pm13 cd13 ct13 oc14 kV14 dc14 pm14 cd14 ct14 oc15 kV15 dc15 pm15 cd15 ct15 oc16 kV16 dc16 pm16 cd16 ct16 oc17 kV17 dc17 pm17 cd17 ct17 oc18 kV18 dc18 pm18 cd18 ct18 oc19 kV19 dc19 pm19 cd19 ct19 oc20 kV20 dc20 pm20 cd20 ct20 oc21 kV21 dc21 pm21 cd21 ct21 oc22 kV22 dc22 pm22 cd22 ct22 oc23 kV23 dc23 pm23 cd23 ct23 oc24 kV24 dc24 pm24 cd24 ct24 oc25 kV25 dc25 pm25 cd25 ct25 oc26 kV26 dc26 pm26 cd26 ct26 oc27 kV27 dc27 pm27 cd27 ct27 oc28 kV28 dc28 pm28 cd28 ct28 oc29 kV29 dc29 pm29 cd29 ct29 oc30 kV30 dc30 pm30 cd30 ct30 oc31 kV31 dc31 pm31 cd31 ct31 oc32 kV32 dc32 pm32 cd32 ct32 oc33 kV33 dc33 pm33 cd33 ct33 oc34 kV34 dc34 pm34 cd34 ct34 oc35 kV35 dc35 pm35 cd35 ct35 oc36 kV36 dc36 pm36 cd36 ct36 oc37 kV37 dc37 pm37 cd37 ct37 oc38 kV38 dc38 pm38 cd38 ct38 : Value} {tk0 tk1 : Tok}
    {qe oI0 xo kI0 cI0 mI0 uI0 tI0 : Value} {xn : Nat} {xsl : Array (Option Value)} {xd qdd aI0 bI0 : Option Addr} {qvs : Array Value} {qsl slI0 : Array (Option Value)}
    {oI2 kI2 cI2 mI2 uI2 tI2 : Value} {aI2 bI2 : Option Addr} {slI2 : Array (Option Value)} {nm2 q2 : Str} {N2 : Addr} {bs2 bm2 : List Value} {sn2 : List Str} {sub2 : List Value} {ab2 : Bool} {col2 : Option Bool} {dd2 : Option Addr} {m0x2 m1x2 m2x2 m3x2 m5x2 : Option Value}
    {oI3 kI3 cI3 mI3 uI3 tI3 : Value} {aI3 bI3 : Option Addr} {slI3 : Array (Option Value)} {nm3 q3 : Str} {N3 : Addr} {bs3 bm3 : List Value} {sn3 : List Str} {sub3 : List Value} {ab3 : Bool} {col3 : Option Bool} {dd3 : Option Addr} {m0x3 m1x3 m2x3 m3x3 m5x3 : Option Value}
    {oI5 kI5 cI5 mI5 uI5 tI5 : Value} {aI5 bI5 : Option Addr} {slI5 : Array (Option Value)} {nm5 q5 : Str} {N5 : Addr} {bs5 bm5 : List Value} {sn5 : List Str} {sub5 : List Value} {ab5 : Bool} {col5 : Option Bool} {dd5 : Option Addr} {m0x5 m1x5 m2x5 m3x5 m5x5 : Option Value}
    {oI6 kI6 cI6 mI6 uI6 tI6 : Value} {aI6 bI6 : Option Addr} {slI6 : Array (Option Value)} {nm6 q6 : Str} {N6 : Addr} {bs6 bm6 : List Value} {sn6 : List Str} {sub6 : List Value} {ab6 : Bool} {col6 : Option Bool} {dd6 : Option Addr} {m0x6 m1x6 m2x6 m3x6 m5x6 : Option Value}
    {oI7 kI7 cI7 mI7 uI7 tI7 : Value} {aI7 bI7 : Option Addr} {slI7 : Array (Option Value)} {nm7 q7 : Str} {N7 : Addr} {bs7 bm7 : List Value} {sn7 : List Str} {sub7 : List Value} {ab7 : Bool} {col7 : Option Bool} {dd7 : Option Addr} {m0x7 m1x7 m2x7 m3x7 m5x7 : Option Value}
    {odin anin : Option Addr} {slin : Array (Option Value)} {ocin kVin dcin pmin cdin ctin : Value}
    (ain : PySem.W.nsIn K mainGlobals "independent" = some (some (.ref fin))) (lin : K.lookup fin = some ⟨ocin, odin, .func (PySem.W.fnOf "independent" "independent" (defArgs sIndepN) (defBody sIndepN) (defScope sIndepN) .none kVin dcin pmin anin cdin ctin), slin⟩) (cin : PySem.W.codeIn K cdin "independent" = true) (kin : PySem.W.keepIn K (.ref fin) = true)
    {odiw aniw : Option Addr} {sliw : Array (Option Value)} {ociw kViw dciw pmiw cdiw ctiw : Value}
    (aiw : PySem.W.nsIn K mainGlobals "is_width" = some (some (.ref fiw))) (liw : K.lookup fiw = some ⟨ociw, odiw, .func (PySem.W.fnOf "is_width" "is_width" (defArgs sIsWidth) (defBody sIsWidth) (defScope sIsWidth) .none kViw dciw pmiw aniw cdiw ctiw), sliw⟩) (ciw : PySem.W.codeIn K cdiw "is_width" = true) (kiw : PySem.W.keepIn K (.ref fiw) = true)
    (a0 : PySem.W.nsIn K mainGlobals "is_int" = some (some (.ref f0))) (l0 : K.lookup f0 = some ⟨oc0, od0, .func (PySem.W.fnOf "is_int" "is_int" (defArgs sIsInt) (defBody sIsInt) (defScope sIsInt) .none kV0 dc0 pm0 an0 cd0 ct0), sl0⟩) (c0 : PySem.W.codeIn K cd0 "is_int" = true) (k0 : PySem.W.keepIn K (.ref f0) = true)
    (a1 : PySem.W.nsIn K mainGlobals "is_address" = some (some (.ref f1))) (l1 : K.lookup f1 = some ⟨oc1, od1, .func (PySem.W.fnOf "is_address" "is_address" (defArgs sIsAddr) (defBody sIsAddr) (defScope sIsAddr) .none kV1 dc1 pm1 an1 cd1 ct1), sl1⟩) (c1 : PySem.W.codeIn K cd1 "is_address" = true) (k1 : PySem.W.keepIn K (.ref f1) = true)
    (a2 : PySem.W.nsIn K mainGlobals "are_addresses" = some (some (.ref f2))) (l2 : K.lookup f2 = some ⟨oc2, od2, .func (PySem.W.fnOf "are_addresses" "are_addresses" (defArgs sAreAddrs) (defBody sAreAddrs) (defScope sAreAddrs) .none kV2 dc2 pm2 an2 cd2 ct2), sl2⟩) (c2 : PySem.W.codeIn K cd2 "are_addresses" = true) (k2 : PySem.W.keepIn K (.ref f2) = true)
    (a3 : PySem.W.nsIn K mainGlobals "are_masks" = some (some (.ref f3))) (l3 : K.lookup f3 = some ⟨oc3, od3, .func (PySem.W.fnOf "are_masks" "are_masks" (defArgs sAreMasks) (defBody sAreMasks) (defScope sAreMasks) .none kV3 dc3 pm3 an3 cd3 ct3), sl3⟩) (c3 : PySem.W.codeIn K cd3 "are_masks" = true) (k3 : PySem.W.keepIn K (.ref f3) = true)
    (a4 : PySem.W.nsIn K mainGlobals "check_width" = some (some (.ref f4))) (l4 : K.lookup f4 = some ⟨oc4, od4, .func (PySem.W.fnOf "check_width" "check_width" (defArgs sCkWidth) (defBody sCkWidth) (defScope sCkWidth) .none kV4 dc4 pm4 an4 cd4 ct4), sl4⟩) (c4 : PySem.W.codeIn K cd4 "check_width" = true) (k4 : PySem.W.keepIn K (.ref f4) = true)
    (a5 : PySem.W.nsIn K mainGlobals "check_map" = some (some (.ref f5))) (l5 : K.lookup f5 = some ⟨oc5, od5, .func (PySem.W.fnOf "check_map" "check_map" (defArgs sCkMap) (defBody sCkMap) (defScope sCkMap) .none kV5 dc5 pm5 an5 cd5 ct5), sl5⟩) (c5 : PySem.W.codeIn K cd5 "check_map" = true) (k5 : PySem.W.keepIn K (.ref f5) = true)
    (a6 : PySem.W.nsIn K mainGlobals "check_address" = some (some (.ref f6))) (l6 : K.lookup f6 = some ⟨oc6, od6, .func (PySem.W.fnOf "check_address" "check_address" (defArgs sCkAddr) (defBody sCkAddr) (defScope sCkAddr) .none kV6 dc6 pm6 an6 cd6 ct6), sl6⟩) (c6 : PySem.W.codeIn K cd6 "check_address" = true) (k6 : PySem.W.keepIn K (.ref f6) = true)
    (a7 : PySem.W.nsIn K mainGlobals "parity" = some (some (.ref f7))) (l7 : K.lookup f7 = some ⟨oc7, od7, .func (PySem.W.fnOf "parity" "parity" (defArgs sParity) (defBody sParity) (defScope sParity) .none kV7 dc7 pm7 an7 cd7 ct7), sl7⟩) (c7 : PySem.W.codeIn K cd7 "parity" = true) (k7 : PySem.W.keepIn K (.ref f7) = true)
    (a8 : PySem.W.nsIn K mainGlobals "remainder" = some (some (.ref f8))) (l8 : K.lookup f8 = some ⟨oc8, od8, .func (PySem.W.fnOf "remainder" "remainder" (defArgs sRem) (defBody sRem) (defScope sRem) .none kV8 dc8 pm8 an8 cd8 ct8), sl8⟩) (c8 : PySem.W.codeIn K cd8 "remainder" = true) (k8 : PySem.W.keepIn K (.ref f8) = true)
    (a9 : PySem.W.nsIn K mainGlobals "reduced" = some (some (.ref f9))) (l9 : K.lookup f9 = some ⟨oc9, od9, .func (PySem.W.fnOf "reduced" "reduced" (defArgs sRed) (defBody sRed) (defScope sRed) .none kV9 dc9 pm9 an9 cd9 ct9), sl9⟩) (c9 : PySem.W.codeIn K cd9 "reduced" = true) (k9 : PySem.W.keepIn K (.ref f9) = true)
    (a10 : PySem.W.nsIn K mainGlobals "highest_bit" = some (some (.ref f10))) (l10 : K.lookup f10 = some ⟨oc10, od10, .func (PySem.W.fnOf "highest_bit" "highest_bit" (defArgs sHb) (defBody sHb) (defScope sHb) .none kV10 dc10 pm10 an10 cd10 ct10), sl10⟩) (c10 : PySem.W.codeIn K cd10 "highest_bit" = true) (k10 : PySem.W.keepIn K (.ref f10) = true)
    (a11 : PySem.W.nsIn K mainGlobals "powers" = some (some (.ref f11))) (l11 : K.lookup f11 = some ⟨oc11, od11, .func (PySem.W.fnOf "powers" "powers" (defArgs sPowers) (defBody sPowers) (defScope sPowers) .none kV11 dc11 pm11 an11 cd11 ct11), sl11⟩) (c11 : PySem.W.codeIn K cd11 "powers" = true) (k11 : PySem.W.keepIn K (.ref f11) = true)
    (a12 : PySem.W.nsIn K mainGlobals "orthogonal" = some (some (.ref f12))) (l12 : K.lookup f12 = some ⟨oc12, od12, .func (PySem.W.fnOf "orthogonal" "orthogonal" (defArgs sOrth) (defBody sOrth) (defScope sOrth) .none kV12 dc12 pm12 an12 cd12 ct12), sl12⟩) (c12 : PySem.W.codeIn K cd12 "orthogonal" = true) (k12 : PySem.W.keepIn K (.ref f12) = true)
    (a13 : PySem.W.nsIn K mainGlobals "are_independent" = some (some (.ref f13))) (l13 : K.lookup f13 = some ⟨oc13, od13, .func (PySem.W.fnOf "are_independent" "are_independent" (defArgs sInd) (defBody sInd) (defScope sInd) .none kV13 dc13 pm13 an13 cd13 ct13), sl13⟩) (c13 : PySem.W.codeIn K cd13 "are_independent" = true) (k13 : PySem.W.keepIn K (.ref f13) = true)
    (a14 : PySem.W.nsIn K mainGlobals "recoded" = some (some (.ref f14))) (l14 : K.lookup f14 = some ⟨oc14, od14, .func (PySem.W.fnOf "recoded" "recoded" (defArgs sRec) (defBody sRec) (defScope sRec) .none kV14 dc14 pm14 an14 cd14 ct14), sl14⟩) (c14 : PySem.W.codeIn K cd14 "recoded" = true) (k14 : PySem.W.keepIn K (.ref f14) = true)
    (a15 : PySem.W.nsIn K mainGlobals "bank_of" = some (some (.ref f15))) (l15 : K.lookup f15 = some ⟨oc15, od15, .func (PySem.W.fnOf "bank_of" "bank_of" (defArgs sBankOf) (defBody sBankOf) (defScope sBankOf) .none kV15 dc15 pm15 an15 cd15 ct15), sl15⟩) (c15 : PySem.W.codeIn K cd15 "bank_of" = true) (k15 : PySem.W.keepIn K (.ref f15) = true)
    (a16 : PySem.W.nsIn K mainGlobals "bank" = some (some (.ref f16))) (l16 : K.lookup f16 = some ⟨oc16, od16, .func (PySem.W.fnOf "bank" "bank" (defArgs sBank) (defBody sBank) (defScope sBank) .none kV16 dc16 pm16 an16 cd16 ct16), sl16⟩) (c16 : PySem.W.codeIn K cd16 "bank" = true) (k16 : PySem.W.keepIn K (.ref f16) = true)
    (a17 : PySem.W.nsIn K mainGlobals "kernel" = some (some (.ref f17))) (l17 : K.lookup f17 = some ⟨oc17, od17, .func (PySem.W.fnOf "kernel" "kernel" (defArgs sKernel) (defBody sKernel) (defScope sKernel) .none kV17 dc17 pm17 an17 cd17 ct17), sl17⟩) (c17 : PySem.W.codeIn K cd17 "kernel" = true) (k17 : PySem.W.keepIn K (.ref f17) = true)
    (a18 : PySem.W.nsIn K mainGlobals "bank_count" = some (some (.ref f18))) (l18 : K.lookup f18 = some ⟨oc18, od18, .func (PySem.W.fnOf "bank_count" "bank_count" (defArgs sBankCount) (defBody sBankCount) (defScope sBankCount) .none kV18 dc18 pm18 an18 cd18 ct18), sl18⟩) (c18 : PySem.W.codeIn K cd18 "bank_count" = true) (k18 : PySem.W.keepIn K (.ref f18) = true)
    (a19 : PySem.W.nsIn K mainGlobals "joined" = some (some (.ref f19))) (l19 : K.lookup f19 = some ⟨oc19, od19, .func (PySem.W.fnOf "joined" "joined" (defArgs sJoined) (defBody sJoined) (defScope sJoined) .none kV19 dc19 pm19 an19 cd19 ct19), sl19⟩) (c19 : PySem.W.codeIn K cd19 "joined" = true) (k19 : PySem.W.keepIn K (.ref f19) = true)
    (a20 : PySem.W.nsIn K mainGlobals "recoding" = some (some (.ref f20))) (l20 : K.lookup f20 = some ⟨oc20, od20, .func (PySem.W.fnOf "recoding" "recoding" (defArgs sRecg) (defBody sRecg) (defScope sRecg) .none kV20 dc20 pm20 an20 cd20 ct20), sl20⟩) (c20 : PySem.W.codeIn K cd20 "recoding" = true) (k20 : PySem.W.keepIn K (.ref f20) = true)
    (a21 : PySem.W.nsIn K mainGlobals "completed" = some (some (.ref f21))) (l21 : K.lookup f21 = some ⟨oc21, od21, .func (PySem.W.fnOf "completed" "completed" (defArgs sComp) (defBody sComp) (defScope sComp) .none kV21 dc21 pm21 an21 cd21 ct21), sl21⟩) (c21 : PySem.W.codeIn K cd21 "completed" = true) (k21 : PySem.W.keepIn K (.ref f21) = true)
    (a22 : PySem.W.nsIn K mainGlobals "inverse" = some (some (.ref f22))) (l22 : K.lookup f22 = some ⟨oc22, od22, .func (PySem.W.fnOf "inverse" "inverse" (defArgs sInv) (defBody sInv) (defScope sInv) .none kV22 dc22 pm22 an22 cd22 ct22), sl22⟩) (c22 : PySem.W.codeIn K cd22 "inverse" = true) (k22 : PySem.W.keepIn K (.ref f22) = true)
    (a23 : PySem.W.nsIn K mainGlobals "_law_box" = some (some (.ref f23))) (l23 : K.lookup f23 = some ⟨oc23, od23, .func (PySem.W.fnOf "_law_box" "_law_box" (defArgs sBox) (defBody sBox) (defScope sBox) .none kV23 dc23 pm23 an23 cd23 ct23), sl23⟩) (c23 : PySem.W.codeIn K cd23 "_law_box" = true) (k23 : PySem.W.keepIn K (.ref f23) = true)
    (a24 : PySem.W.nsIn K mainGlobals "_law_take" = some (some (.ref f24))) (l24 : K.lookup f24 = some ⟨oc24, od24, .func (PySem.W.fnOf "_law_take" "_law_take" (defArgs sTake) (defBody sTake) (defScope sTake) .none kV24 dc24 pm24 an24 cd24 ct24), sl24⟩) (c24 : PySem.W.codeIn K cd24 "_law_take" = true) (k24 : PySem.W.keepIn K (.ref f24) = true)
    (a25 : PySem.W.nsIn K mainGlobals "_law_of" = some (some (.ref f25))) (l25 : K.lookup f25 = some ⟨oc25, od25, .func (PySem.W.fnOf "_law_of" "_law_of" (defArgs sOf) (defBody sOf) (defScope sOf) .none kV25 dc25 pm25 an25 cd25 ct25), sl25⟩) (c25 : PySem.W.codeIn K cd25 "_law_of" = true) (k25 : PySem.W.keepIn K (.ref f25) = true)
    (a26 : PySem.W.nsIn K mainGlobals "_law_lot" = some (some (.ref f26))) (l26 : K.lookup f26 = some ⟨oc26, od26, .func (PySem.W.fnOf "_law_lot" "_law_lot" (defArgs sLot) (defBody sLot) (defScope sLot) .none kV26 dc26 pm26 an26 cd26 ct26), sl26⟩) (c26 : PySem.W.codeIn K cd26 "_law_lot" = true) (k26 : PySem.W.keepIn K (.ref f26) = true)
    (a27 : PySem.W.nsIn K mainGlobals "_law_plan" = some (some (.ref f27))) (l27 : K.lookup f27 = some ⟨oc27, od27, .func (PySem.W.fnOf "_law_plan" "_law_plan" (defArgs sPlan) (defBody sPlan) (defScope sPlan) .none kV27 dc27 pm27 an27 cd27 ct27), sl27⟩) (c27 : PySem.W.codeIn K cd27 "_law_plan" = true) (k27 : PySem.W.keepIn K (.ref f27) = true)
    (a28 : PySem.W.nsIn K mainGlobals "_law_any" = some (some (.ref f28))) (l28 : K.lookup f28 = some ⟨oc28, od28, .func (PySem.W.fnOf "_law_any" "_law_any" (defArgs sAny) (defBody sAny) (defScope sAny) .none kV28 dc28 pm28 an28 cd28 ct28), sl28⟩) (c28 : PySem.W.codeIn K cd28 "_law_any" = true) (k28 : PySem.W.keepIn K (.ref f28) = true)
    (a29 : PySem.W.nsIn K mainGlobals "_law_bent" = some (some (.ref f29))) (l29 : K.lookup f29 = some ⟨oc29, od29, .func (PySem.W.fnOf "_law_bent" "_law_bent" (defArgs sBent) (defBody sBent) (defScope sBent) .none kV29 dc29 pm29 an29 cd29 ct29), sl29⟩) (c29 : PySem.W.codeIn K cd29 "_law_bent" = true) (k29 : PySem.W.keepIn K (.ref f29) = true)
    (a30 : PySem.W.nsIn K mainGlobals "_law_is_int" = some (some (.ref f30))) (l30 : K.lookup f30 = some ⟨oc30, od30, .func (PySem.W.fnOf "_law_is_int" "_law_is_int" (defArgs sLInt) (defBody sLInt) (defScope sLInt) .none kV30 dc30 pm30 an30 cd30 ct30), sl30⟩) (c30 : PySem.W.codeIn K cd30 "_law_is_int" = true) (k30 : PySem.W.keepIn K (.ref f30) = true)
    (a31 : PySem.W.nsIn K mainGlobals "_law_is_spot" = some (some (.ref f31))) (l31 : K.lookup f31 = some ⟨oc31, od31, .func (PySem.W.fnOf "_law_is_spot" "_law_is_spot" (defArgs sLSpot) (defBody sLSpot) (defScope sLSpot) .none kV31 dc31 pm31 an31 cd31 ct31), sl31⟩) (c31 : PySem.W.codeIn K cd31 "_law_is_spot" = true) (k31 : PySem.W.keepIn K (.ref f31) = true)
    (a32 : PySem.W.nsIn K mainGlobals "_law_is_plan" = some (some (.ref f32))) (l32 : K.lookup f32 = some ⟨oc32, od32, .func (PySem.W.fnOf "_law_is_plan" "_law_is_plan" (defArgs sLPlan) (defBody sLPlan) (defScope sLPlan) .none kV32 dc32 pm32 an32 cd32 ct32), sl32⟩) (c32 : PySem.W.codeIn K cd32 "_law_is_plan" = true) (k32 : PySem.W.keepIn K (.ref f32) = true)
    (a33 : PySem.W.nsIn K mainGlobals "_law_is_size" = some (some (.ref f33))) (l33 : K.lookup f33 = some ⟨oc33, od33, .func (PySem.W.fnOf "_law_is_size" "_law_is_size" (defArgs sLSize) (defBody sLSize) (defScope sLSize) .none kV33 dc33 pm33 an33 cd33 ct33), sl33⟩) (c33 : PySem.W.codeIn K cd33 "_law_is_size" = true) (k33 : PySem.W.keepIn K (.ref f33) = true)
    (a34 : PySem.W.nsIn K mainGlobals "_law_told" = some (some (.ref f34))) (l34 : K.lookup f34 = some ⟨oc34, od34, .func (PySem.W.fnOf "_law_told" "_law_told" (defArgs sTold) (defBody sTold) (defScope sTold) .none kV34 dc34 pm34 an34 cd34 ct34), sl34⟩) (c34 : PySem.W.codeIn K cd34 "_law_told" = true) (k34 : PySem.W.keepIn K (.ref f34) = true)
    (a35 : PySem.W.nsIn K mainGlobals "_law_four" = some (some (.ref f35))) (l35 : K.lookup f35 = some ⟨oc35, od35, .func (PySem.W.fnOf "_law_four" "_law_four" (defArgs sFour) (defBody sFour) (defScope sFour) .none kV35 dc35 pm35 an35 cd35 ct35), sl35⟩) (c35 : PySem.W.codeIn K cd35 "_law_four" = true) (k35 : PySem.W.keepIn K (.ref f35) = true)
    (a36 : PySem.W.nsIn K mainGlobals "_law_due" = some (some (.ref f36))) (l36 : K.lookup f36 = some ⟨oc36, od36, .func (PySem.W.fnOf "_law_due" "_law_due" (defArgs sDue) (defBody sDue) (defScope sDue) .none kV36 dc36 pm36 an36 cd36 ct36), sl36⟩) (c36 : PySem.W.codeIn K cd36 "_law_due" = true) (k36 : PySem.W.keepIn K (.ref f36) = true)
    (a37 : PySem.W.nsIn K mainGlobals "_law_right" = some (some (.ref f37))) (l37 : K.lookup f37 = some ⟨oc37, od37, .func (PySem.W.fnOf "_law_right" "_law_right" (defArgs sRight) (defBody sRight) (defScope sRight) .none kV37 dc37 pm37 an37 (.ref cc) ct37), sl37⟩) (c37 : PySem.W.codeIn K (.ref cc) "_law_right" = true) (k37 : PySem.W.keepIn K (.ref f37) = true)
    (a38 : PySem.W.nsIn K mainGlobals "law" = some (some (.ref f38))) (l38 : K.lookup f38 = some ⟨oc38, od38, .func (PySem.W.fnOf "law" "law" (defArgs sLaw) (defBody sLaw) (defScope sLaw) .none kV38 dc38 pm38 an38 cd38 ct38), sl38⟩) (c38 : PySem.W.codeIn K cd38 "law" = true) (k38 : PySem.W.keepIn K (.ref f38) = true)
    (z0 : PySem.W.nsIn K mainGlobals "isinstance" = some none)
    (z1 : PySem.W.nsIn K mainGlobals "int" = some none)
    (z2 : PySem.W.nsIn K mainGlobals "bool" = some none)
    (z3 : PySem.W.nsIn K mainGlobals "tuple" = some none)
    (z4 : PySem.W.nsIn K mainGlobals "len" = some none)
    (z5 : PySem.W.nsIn K mainGlobals "all" = some none)
    (z6 : PySem.W.nsIn K mainGlobals "any" = some none)
    (z7 : PySem.W.nsIn K mainGlobals "sum" = some none)
    (z8 : PySem.W.nsIn K mainGlobals "abs" = some none)
    (z9 : PySem.W.nsIn K mainGlobals "range" = some none)
    (z10 : PySem.W.nsIn K mainGlobals "repr" = some none)
    (z11 : PySem.W.nsIn K mainGlobals "sorted" = some none)
    (z12 : PySem.W.nsIn K mainGlobals "max" = some none)
    (z13 : PySem.W.nsIn K mainGlobals "min" = some none)
    (z14 : PySem.W.nsIn K mainGlobals "list" = some none)
    (z15 : PySem.W.nsIn K mainGlobals "str" = some none)
    (z16 : PySem.W.nsIn K mainGlobals "enumerate" = some none)
    (m0 : PySem.W.nsIn K mainGlobals "MOST_WIDTH" = some (some (.int 16 tk0)))
    (m1 : PySem.W.nsIn K mainGlobals "MOST_MASKS" = some (some (.int 16 tk1)))
    (qc : K.lookup cc = some ⟨qe, qdd, .fields qvs, qsl⟩)
    (qp : qvs[11]? = some (.ref PT))
    (qn : K.lookup PT = none)
    (gB : PySem.W.nsIn K mainGlobals "BankError" = some (some (.ref CB)))
    (gW : PySem.W.nsIn K mainGlobals "InvalidWidth" = some (some (.ref CW)))
    (xW : K.lookup CW = some (excClassObj nm2 q2 CW N2 bs2 bm2 true sn2 sub2 ab2 col2 dd2 m0x2 m1x2 m2x2 m3x2 m5x2 "ValueError.__new__"))
    (hbW : PySem.HandSPX.refsVE bm2 = true)
    (saW : PySem.W.findIn K (.ref CW) "__setattr__" = some (some (.builtin "object.__setattr__")))
    (exW : PySem.W.subIn K (.ref CW) (.type "BaseException") = some true)
    (tyW : PySem.W.typeIn K (.ref CW) = some (.type "type"))
    (kpW : PySem.W.keepIn K (.ref CW) = true)
    (noVW : PySem.W.findIn K (.ref CW) "value" = some none)
    (iTW : PySem.W.findIn K (.ref CW) "__init__" = some (some (.ref e2)))
    (tIW : PySem.W.typeIn K (.ref e2) = some (.type "function"))
    (lIW : K.lookup e2 = some ⟨oI2, aI2, .func (PySem.W.fnOf "__init__" "InvalidWidth.__init__" (defArgs sI2) (defBody sI2) (defScope sI2) .none kI2 cI2 mI2 bI2 uI2 tI2), slI2⟩)
    (ucW : PySem.W.codeIn K uI2 "InvalidWidth.__init__" = true)
    (clW : PySem.W.isClsIn K CW = true)
    (gaTW : PySem.W.findIn K (.ref CW) "__getattribute__" = some (some (.builtin "BaseException.__getattribute__")))
    (ggW : PySem.W.findIn K (.ref CW) "__getattr__" = some none)
    (hdW : PySem.W.hasDictIn K CW = true)
    (haTW : PySem.W.findIn K (.ref CW) "__class__" = some (some (.builtin "object.__class__")))
    (hmW : PySem.W.mroIn K CW (.type "object") = some true)
    (sBW : PySem.W.subIn K (.ref CW) (.ref CB) = some true)
    (gM : PySem.W.nsIn K mainGlobals "InvalidMap" = some (some (.ref CM)))
    (xM : K.lookup CM = some (excClassObj nm3 q3 CM N3 bs3 bm3 true sn3 sub3 ab3 col3 dd3 m0x3 m1x3 m2x3 m3x3 m5x3 "ValueError.__new__"))
    (hbM : PySem.HandSPX.refsVE bm3 = true)
    (saM : PySem.W.findIn K (.ref CM) "__setattr__" = some (some (.builtin "object.__setattr__")))
    (exM : PySem.W.subIn K (.ref CM) (.type "BaseException") = some true)
    (tyM : PySem.W.typeIn K (.ref CM) = some (.type "type"))
    (kpM : PySem.W.keepIn K (.ref CM) = true)
    (noVM : PySem.W.findIn K (.ref CM) "value" = some none)
    (iTM : PySem.W.findIn K (.ref CM) "__init__" = some (some (.ref e3)))
    (tIM : PySem.W.typeIn K (.ref e3) = some (.type "function"))
    (lIM : K.lookup e3 = some ⟨oI3, aI3, .func (PySem.W.fnOf "__init__" "InvalidMap.__init__" (defArgs sI3) (defBody sI3) (defScope sI3) .none kI3 cI3 mI3 bI3 uI3 tI3), slI3⟩)
    (ucM : PySem.W.codeIn K uI3 "InvalidMap.__init__" = true)
    (clM : PySem.W.isClsIn K CM = true)
    (gaTM : PySem.W.findIn K (.ref CM) "__getattribute__" = some (some (.builtin "BaseException.__getattribute__")))
    (ggM : PySem.W.findIn K (.ref CM) "__getattr__" = some none)
    (hdM : PySem.W.hasDictIn K CM = true)
    (haTM : PySem.W.findIn K (.ref CM) "__class__" = some (some (.builtin "object.__class__")))
    (hmM : PySem.W.mroIn K CM (.type "object") = some true)
    (sBM : PySem.W.subIn K (.ref CM) (.ref CB) = some true)
    (gA : PySem.W.nsIn K mainGlobals "InvalidAddress" = some (some (.ref CA)))
    (xA : K.lookup CA = some (excClassObj nm5 q5 CA N5 bs5 bm5 true sn5 sub5 ab5 col5 dd5 m0x5 m1x5 m2x5 m3x5 m5x5 "ValueError.__new__"))
    (hbA : PySem.HandSPX.refsVE bm5 = true)
    (saA : PySem.W.findIn K (.ref CA) "__setattr__" = some (some (.builtin "object.__setattr__")))
    (exA : PySem.W.subIn K (.ref CA) (.type "BaseException") = some true)
    (tyA : PySem.W.typeIn K (.ref CA) = some (.type "type"))
    (kpA : PySem.W.keepIn K (.ref CA) = true)
    (noVA : PySem.W.findIn K (.ref CA) "value" = some none)
    (iTA : PySem.W.findIn K (.ref CA) "__init__" = some (some (.ref e5)))
    (tIA : PySem.W.typeIn K (.ref e5) = some (.type "function"))
    (lIA : K.lookup e5 = some ⟨oI5, aI5, .func (PySem.W.fnOf "__init__" "InvalidAddress.__init__" (defArgs sI5) (defBody sI5) (defScope sI5) .none kI5 cI5 mI5 bI5 uI5 tI5), slI5⟩)
    (ucA : PySem.W.codeIn K uI5 "InvalidAddress.__init__" = true)
    (clA : PySem.W.isClsIn K CA = true)
    (gaTA : PySem.W.findIn K (.ref CA) "__getattribute__" = some (some (.builtin "BaseException.__getattribute__")))
    (ggA : PySem.W.findIn K (.ref CA) "__getattr__" = some none)
    (hdA : PySem.W.hasDictIn K CA = true)
    (haTA : PySem.W.findIn K (.ref CA) "__class__" = some (some (.builtin "object.__class__")))
    (hmA : PySem.W.mroIn K CA (.type "object") = some true)
    (sBA : PySem.W.subIn K (.ref CA) (.ref CB) = some true)
    (gD : PySem.W.nsIn K mainGlobals "Dependent" = some (some (.ref CD)))
    (xD : K.lookup CD = some (excClassObj nm6 q6 CD N6 bs6 bm6 true sn6 sub6 ab6 col6 dd6 m0x6 m1x6 m2x6 m3x6 m5x6 "ValueError.__new__"))
    (hbD : PySem.HandSPX.refsVE bm6 = true)
    (saD : PySem.W.findIn K (.ref CD) "__setattr__" = some (some (.builtin "object.__setattr__")))
    (exD : PySem.W.subIn K (.ref CD) (.type "BaseException") = some true)
    (tyD : PySem.W.typeIn K (.ref CD) = some (.type "type"))
    (kpD : PySem.W.keepIn K (.ref CD) = true)
    (noVD : PySem.W.findIn K (.ref CD) "value" = some none)
    (iTD : PySem.W.findIn K (.ref CD) "__init__" = some (some (.ref e6)))
    (tID : PySem.W.typeIn K (.ref e6) = some (.type "function"))
    (lID : K.lookup e6 = some ⟨oI6, aI6, .func (PySem.W.fnOf "__init__" "Dependent.__init__" (defArgs VD.sI4) (defBody VD.sI4) (defScope VD.sI4) .none kI6 cI6 mI6 bI6 uI6 tI6), slI6⟩)
    (ucD : PySem.W.codeIn K uI6 "Dependent.__init__" = true)
    (clD : PySem.W.isClsIn K CD = true)
    (gaTD : PySem.W.findIn K (.ref CD) "__getattribute__" = some (some (.builtin "BaseException.__getattribute__")))
    (ggD : PySem.W.findIn K (.ref CD) "__getattr__" = some none)
    (hdD : PySem.W.hasDictIn K CD = true)
    (haTD : PySem.W.findIn K (.ref CD) "__class__" = some (some (.builtin "object.__class__")))
    (hmD : PySem.W.mroIn K CD (.type "object") = some true)
    (sBD : PySem.W.subIn K (.ref CD) (.ref CB) = some true)
    (gN : PySem.W.nsIn K mainGlobals "NotInvertible" = some (some (.ref CN)))
    (xN : K.lookup CN = some (excClassObj nm7 q7 CN N7 bs7 bm7 true sn7 sub7 ab7 col7 dd7 m0x7 m1x7 m2x7 m3x7 m5x7 "ValueError.__new__"))
    (hbN : PySem.HandSPX.refsVE bm7 = true)
    (saN : PySem.W.findIn K (.ref CN) "__setattr__" = some (some (.builtin "object.__setattr__")))
    (exN : PySem.W.subIn K (.ref CN) (.type "BaseException") = some true)
    (tyN : PySem.W.typeIn K (.ref CN) = some (.type "type"))
    (kpN : PySem.W.keepIn K (.ref CN) = true)
    (noVN : PySem.W.findIn K (.ref CN) "value" = some none)
    (iTN : PySem.W.findIn K (.ref CN) "__init__" = some (some (.ref e7)))
    (tIN : PySem.W.typeIn K (.ref e7) = some (.type "function"))
    (lIN : K.lookup e7 = some ⟨oI7, aI7, .func (PySem.W.fnOf "__init__" "NotInvertible.__init__" (defArgs VN.sI4) (defBody VN.sI4) (defScope VN.sI4) .none kI7 cI7 mI7 bI7 uI7 tI7), slI7⟩)
    (ucN : PySem.W.codeIn K uI7 "NotInvertible.__init__" = true)
    (clN : PySem.W.isClsIn K CN = true)
    (gaTN : PySem.W.findIn K (.ref CN) "__getattribute__" = some (some (.builtin "BaseException.__getattribute__")))
    (ggN : PySem.W.findIn K (.ref CN) "__getattr__" = some none)
    (hdN : PySem.W.hasDictIn K CN = true)
    (haTN : PySem.W.findIn K (.ref CN) "__class__" = some (some (.builtin "object.__class__")))
    (hmN : PySem.W.mroIn K CN (.type "object") = some true)
    (sBN : PySem.W.subIn K (.ref CN) (.ref CB) = some true)
    (ga : PySem.W.specialIn K (.ref CB) "__getattribute__" = some (some (.builtin "type.__getattribute__")))
    (rd : PySem.W.readsIn K CB (.type "type") = true)
    (fc : PySem.W.findCls K (.ref CB) (.type "type") "__init__" = some (.val (.ref e0)))
    (kp : PySem.W.keepIn K (.ref e0) = true)
    (lI0 : K.lookup e0 = some ⟨oI0, aI0, .func (PySem.W.fnOf "__init__" "BankError.__init__" (defArgs sI0) (defBody sI0) (defScope sI0) (.ref TD) kI0 cI0 mI0 bI0 uI0 tI0), slI0⟩)
    (lT : K.lookup TD = some ⟨xo, xd, .seq #[.none] xn, xsl⟩)
    (uc0 : PySem.W.codeIn K uI0 "BankError.__init__" = true)
    (hn : PySem.W.specialIn K (.builtin "object.__class__") "__get__" = some (some (.builtin "getset_descriptor.__get__")))
    (ht : PySem.W.takesIn K (.builtin "object.__class__") = some true)
    (eB : PySem.W.subIn K (.ref CB) (.type "BaseException") = some true)
    (hB : PySem.W.hasDictIn K CB = true)
    (tB : PySem.W.typeIn K (.ref CB) = some (.type "type"))
    (neMW : ((Value.ref CM) == Value.ref CW) = false)
    (neAW : ((Value.ref CA) == Value.ref CW) = false)
    (neAM : ((Value.ref CA) == Value.ref CM) = false)
    (neDW : ((Value.ref CD) == Value.ref CW) = false)
    (neDM : ((Value.ref CD) == Value.ref CM) = false)
    (neNW : ((Value.ref CN) == Value.ref CW) = false)
    (neNM : ((Value.ref CN) == Value.ref CM) = false)
    (neDA : ((Value.ref CD) == Value.ref CA) = false)
    (neNA : ((Value.ref CN) == Value.ref CA) = false)
    (neND : ((Value.ref CN) == Value.ref CD) = false)
    (sMW : PySem.W.subIn K (.ref CM) (.ref CW) = some false)
    (sAW : PySem.W.subIn K (.ref CA) (.ref CW) = some false)
    (sAM : PySem.W.subIn K (.ref CA) (.ref CM) = some false)
    (sDW : PySem.W.subIn K (.ref CD) (.ref CW) = some false)
    (sDM : PySem.W.subIn K (.ref CD) (.ref CM) = some false)
    (sNW : PySem.W.subIn K (.ref CN) (.ref CW) = some false)
    (sNM : PySem.W.subIn K (.ref CN) (.ref CM) = some false)
    (sDA : PySem.W.subIn K (.ref CD) (.ref CA) = some false)
    (sNA : PySem.W.subIn K (.ref CN) (.ref CA) = some false)
    (sND : PySem.W.subIn K (.ref CN) (.ref CD) = some false)
    (szW : PySem.W.subIn K (.type "NoneType") (.ref CW) = some false)
    (szM : PySem.W.subIn K (.type "NoneType") (.ref CM) = some false)
    (szA : PySem.W.subIn K (.type "NoneType") (.ref CA) = some false) :
    ∃ (fd : FuncData) (cs : List (Addr × Addr)) (sp : Sp), (∀ p ∈ cs, h.get? p.2 = some { cls := .none, data := .fields #[] }) ∧ (∀ p ∈ cs, K.lookup p.2 = none) ∧ (∀ p ∈ cs, PySem.W.CodeHd h p.1 p.2) ∧ (∀ (s : Shared) (u : Value), BindsTo s fd ⟨[u], []⟩ [("_law_script", u)]) ∧
      (∀ (H : Hp) (a : Addr) (ns : List Int), ns.length ≤ 63 → (∀ p ∈ cs, H p.2 = some (.tbl #[])) → SqL K H a (ns.map V.int) → sp [.ref a] H (fun v _ => v = .bl true) fun _ _ _ => False) ∧
      ∀ base : Heap, K.In base → base.Ns mainGlobals mg → (∀ p ∈ cs, TabB base mg p.1 p.2) → G.FnG l.prog w K mg base 11 fa fd ["_law_script"] sp := by
  have e := hfa.symm.trans (PySem.W.mg_of X Gn a38)
  cases e
  have Fiw := fun_mk (st := sIsWidth) liw ciw kiw
  have Aiw : At K mg "is_width" sIsWidth ["value"] fiw _ := ⟨Fiw, PySem.W.mg_of X Gn aiw, Fiw.binds (ps := ["value"]) fun _ _ _ _ _ _ us hl => match us, hl with | [_], _ => rfl⟩
  have Fin_ := fun_mk (st := sIndepN) lin cin kin
  have Ain : At K mg "independent" sIndepN ["known", "vectors"] fin _ := ⟨Fin_, PySem.W.mg_of X Gn ain, Fin_.binds (ps := ["known", "vectors"]) fun _ _ _ _ _ _ us hl => match us, hl with | [_, _], _ => rfl⟩
  have T : Txt K mg := ⟨⟨_, _, Ain⟩, ⟨_, _, Aiw⟩, PySem.W.mg_none_of X Gn z0, PySem.W.mg_none_of X Gn z1, PySem.W.mg_none_of X Gn z2, PySem.W.mg_none_of X Gn z3, PySem.W.mg_none_of X Gn z4, PySem.W.mg_none_of X Gn z5, PySem.W.mg_none_of X Gn z6, PySem.W.mg_none_of X Gn z7, PySem.W.mg_none_of X Gn z8, PySem.W.mg_none_of X Gn z9, PySem.W.mg_none_of X Gn z10, PySem.W.mg_none_of X Gn z11, PySem.W.mg_none_of X Gn z12, PySem.W.mg_none_of X Gn z13, PySem.W.mg_none_of X Gn z14, PySem.W.mg_none_of X Gn z15, PySem.W.mg_none_of X Gn z16, ⟨_, PySem.W.mg_of X Gn m0⟩, ⟨_, PySem.W.mg_of X Gn m1⟩⟩
  have F0 := fun_mk (st := sIsInt) l0 c0 k0
  have A0 : At K mg "is_int" sIsInt ["value"] f0 _ := ⟨F0, PySem.W.mg_of X Gn a0, F0.binds (ps := ["value"]) fun _ _ _ _ _ _ us hl => match us, hl with | [_], _ => rfl⟩
  have F1 := fun_mk (st := sIsAddr) l1 c1 k1
  have A1 : At K mg "is_address" sIsAddr ["width", "value"] f1 _ := ⟨F1, PySem.W.mg_of X Gn a1, F1.binds (ps := ["width", "value"]) fun _ _ _ _ _ _ us hl => match us, hl with | [_, _], _ => rfl⟩
  have F2 := fun_mk (st := sAreAddrs) l2 c2 k2
  have A2 : At K mg "are_addresses" sAreAddrs ["width", "value", "most"] f2 _ := ⟨F2, PySem.W.mg_of X Gn a2, F2.binds (ps := ["width", "value", "most"]) fun _ _ _ _ _ _ us hl => match us, hl with | [_, _, _], _ => rfl⟩
  have F3 := fun_mk (st := sAreMasks) l3 c3 k3
  have A3 : At K mg "are_masks" sAreMasks ["width", "value"] f3 _ := ⟨F3, PySem.W.mg_of X Gn a3, F3.binds (ps := ["width", "value"]) fun _ _ _ _ _ _ us hl => match us, hl with | [_, _], _ => rfl⟩
  have F4 := fun_mk (st := sCkWidth) l4 c4 k4
  have A4 : At K mg "check_width" sCkWidth ["width"] f4 _ := ⟨F4, PySem.W.mg_of X Gn a4, F4.binds (ps := ["width"]) fun _ _ _ _ _ _ us hl => match us, hl with | [_], _ => rfl⟩
  have F5 := fun_mk (st := sCkMap) l5 c5 k5
  have A5 : At K mg "check_map" sCkMap ["width", "masks"] f5 _ := ⟨F5, PySem.W.mg_of X Gn a5, F5.binds (ps := ["width", "masks"]) fun _ _ _ _ _ _ us hl => match us, hl with | [_, _], _ => rfl⟩
  have F6 := fun_mk (st := sCkAddr) l6 c6 k6
  have A6 : At K mg "check_address" sCkAddr ["width", "address"] f6 _ := ⟨F6, PySem.W.mg_of X Gn a6, F6.binds (ps := ["width", "address"]) fun _ _ _ _ _ _ us hl => match us, hl with | [_, _], _ => rfl⟩
  have F7 := fun_mk (st := sParity) l7 c7 k7
  have A7 : At K mg "parity" sParity ["number"] f7 _ := ⟨F7, PySem.W.mg_of X Gn a7, F7.binds (ps := ["number"]) fun _ _ _ _ _ _ us hl => match us, hl with | [_], _ => rfl⟩
  have F8 := fun_mk (st := sRem) l8 c8 k8
  have A8 : At K mg "remainder" sRem ["rows", "vector"] f8 _ := ⟨F8, PySem.W.mg_of X Gn a8, F8.binds (ps := ["rows", "vector"]) fun _ _ _ _ _ _ us hl => match us, hl with | [_, _], _ => rfl⟩
  have F9 := fun_mk (st := sRed) l9 c9 k9
  have A9 : At K mg "reduced" sRed ["vectors"] f9 _ := ⟨F9, PySem.W.mg_of X Gn a9, F9.binds (ps := ["vectors"]) fun _ _ _ _ _ _ us hl => match us, hl with | [_], _ => rfl⟩
  have F10 := fun_mk (st := sHb) l10 c10 k10
  have A10 : At K mg "highest_bit" sHb ["number"] f10 _ := ⟨F10, PySem.W.mg_of X Gn a10, F10.binds (ps := ["number"]) fun _ _ _ _ _ _ us hl => match us, hl with | [_], _ => rfl⟩
  have F11 := fun_mk (st := sPowers) l11 c11 k11
  have A11 : At K mg "powers" sPowers ["width"] f11 _ := ⟨F11, PySem.W.mg_of X Gn a11, F11.binds (ps := ["width"]) fun _ _ _ _ _ _ us hl => match us, hl with | [_], _ => rfl⟩
  have F12 := fun_mk (st := sOrth) l12 c12 k12
  have A12 : At K mg "orthogonal" sOrth ["width", "vectors"] f12 _ := ⟨F12, PySem.W.mg_of X Gn a12, F12.binds (ps := ["width", "vectors"]) fun _ _ _ _ _ _ us hl => match us, hl with | [_, _], _ => rfl⟩
  have F13 := fun_mk (st := sInd) l13 c13 k13
  have A13 : At K mg "are_independent" sInd ["masks"] f13 _ := ⟨F13, PySem.W.mg_of X Gn a13, F13.binds (ps := ["masks"]) fun _ _ _ _ _ _ us hl => match us, hl with | [_], _ => rfl⟩
  have F14 := fun_mk (st := sRec) l14 c14 k14
  have A14 : At K mg "recoded" sRec ["masks", "others"] f14 _ := ⟨F14, PySem.W.mg_of X Gn a14, F14.binds (ps := ["masks", "others"]) fun _ _ _ _ _ _ us hl => match us, hl with | [_, _], _ => rfl⟩
  have F15 := fun_mk (st := sBankOf) l15 c15 k15
  have A15 : At K mg "bank_of" sBankOf ["masks", "address"] f15 _ := ⟨F15, PySem.W.mg_of X Gn a15, F15.binds (ps := ["masks", "address"]) fun _ _ _ _ _ _ us hl => match us, hl with | [_, _], _ => rfl⟩
  have F16 := fun_mk (st := sBank) l16 c16 k16
  have A16 : At K mg "bank" sBank ["width", "masks", "address"] f16 _ := ⟨F16, PySem.W.mg_of X Gn a16, F16.binds (ps := ["width", "masks", "address"]) fun _ _ _ _ _ _ us hl => match us, hl with | [_, _, _], _ => rfl⟩
  have F17 := fun_mk (st := sKernel) l17 c17 k17
  have A17 : At K mg "kernel" sKernel ["width", "masks"] f17 _ := ⟨F17, PySem.W.mg_of X Gn a17, F17.binds (ps := ["width", "masks"]) fun _ _ _ _ _ _ us hl => match us, hl with | [_, _], _ => rfl⟩
  have F18 := fun_mk (st := sBankCount) l18 c18 k18
  have A18 : At K mg "bank_count" sBankCount ["width", "masks"] f18 _ := ⟨F18, PySem.W.mg_of X Gn a18, F18.binds (ps := ["width", "masks"]) fun _ _ _ _ _ _ us hl => match us, hl with | [_, _], _ => rfl⟩
  have F19 := fun_mk (st := sJoined) l19 c19 k19
  have A19 : AtV K mg f19 _ := ⟨F19, PySem.W.mg_of X Gn a19⟩
  have F20 := fun_mk (st := sRecg) l20 c20 k20
  have A20 : At K mg "recoding" sRecg ["width", "masks", "others"] f20 _ := ⟨F20, PySem.W.mg_of X Gn a20, F20.binds (ps := ["width", "masks", "others"]) fun _ _ _ _ _ _ us hl => match us, hl with | [_, _, _], _ => rfl⟩
  have F21 := fun_mk (st := sComp) l21 c21 k21
  have A21 : At K mg "completed" sComp ["width", "masks"] f21 _ := ⟨F21, PySem.W.mg_of X Gn a21, F21.binds (ps := ["width", "masks"]) fun _ _ _ _ _ _ us hl => match us, hl with | [_, _], _ => rfl⟩
  have F22 := fun_mk (st := sInv) l22 c22 k22
  have A22 : At K mg "inverse" sInv ["width", "masks"] f22 _ := ⟨F22, PySem.W.mg_of X Gn a22, F22.binds (ps := ["width", "masks"]) fun _ _ _ _ _ _ us hl => match us, hl with | [_, _], _ => rfl⟩
  have F23 := fun_mk (st := sBox) l23 c23 k23
  have A23 : At K mg "_law_box" sBox ["_law_script", "_law_k"] f23 _ := ⟨F23, PySem.W.mg_of X Gn a23, F23.binds (ps := ["_law_script", "_law_k"]) fun _ _ _ _ _ _ us hl => match us, hl with | [_, _], _ => rfl⟩
  have F24 := fun_mk (st := sTake) l24 c24 k24
  have A24 : At K mg "_law_take" sTake ["_law_box_here", "_law_many"] f24 _ := ⟨F24, PySem.W.mg_of X Gn a24, F24.binds (ps := ["_law_box_here", "_law_many"]) fun _ _ _ _ _ _ us hl => match us, hl with | [_, _], _ => rfl⟩
  have F25 := fun_mk (st := sOf) l25 c25 k25
  have A25 : At K mg "_law_of" sOf ["_law_box_here", "_law_some"] f25 _ := ⟨F25, PySem.W.mg_of X Gn a25, F25.binds (ps := ["_law_box_here", "_law_some"]) fun _ _ _ _ _ _ us hl => match us, hl with | [_, _], _ => rfl⟩
  have F26 := fun_mk (st := sLot) l26 c26 k26
  have A26 : At K mg "_law_lot" sLot ["_law_box_here", "_law_size", "_law_most"] f26 _ := ⟨F26, PySem.W.mg_of X Gn a26, F26.binds (ps := ["_law_box_here", "_law_size", "_law_most"]) fun _ _ _ _ _ _ us hl => match us, hl with | [_, _, _], _ => rfl⟩
  have F27 := fun_mk (st := sPlan) l27 c27 k27
  have A27 : At K mg "_law_plan" sPlan ["_law_box_here", "_law_size", "_law_many"] f27 _ := ⟨F27, PySem.W.mg_of X Gn a27, F27.binds (ps := ["_law_box_here", "_law_size", "_law_many"]) fun _ _ _ _ _ _ us hl => match us, hl with | [_, _, _], _ => rfl⟩
  have F28 := fun_mk (st := sAny) l28 c28 k28
  have A28 : At K mg "_law_any" sAny ["_law_box_here"] f28 _ := ⟨F28, PySem.W.mg_of X Gn a28, F28.binds (ps := ["_law_box_here"]) fun _ _ _ _ _ _ us hl => match us, hl with | [_], _ => rfl⟩
  have F29 := fun_mk (st := sBent) l29 c29 k29
  have A29 : At K mg "_law_bent" sBent ["_law_box_here", "_law_thing"] f29 _ := ⟨F29, PySem.W.mg_of X Gn a29, F29.binds (ps := ["_law_box_here", "_law_thing"]) fun _ _ _ _ _ _ us hl => match us, hl with | [_, _], _ => rfl⟩
  have F30 := fun_mk (st := sLInt) l30 c30 k30
  have A30 : At K mg "_law_is_int" sLInt ["_law_thing"] f30 _ := ⟨F30, PySem.W.mg_of X Gn a30, F30.binds (ps := ["_law_thing"]) fun _ _ _ _ _ _ us hl => match us, hl with | [_], _ => rfl⟩
  have F31 := fun_mk (st := sLSpot) l31 c31 k31
  have A31 : At K mg "_law_is_spot" sLSpot ["_law_size", "_law_thing"] f31 _ := ⟨F31, PySem.W.mg_of X Gn a31, F31.binds (ps := ["_law_size", "_law_thing"]) fun _ _ _ _ _ _ us hl => match us, hl with | [_, _], _ => rfl⟩
  have F32 := fun_mk (st := sLPlan) l32 c32 k32
  have A32 : At K mg "_law_is_plan" sLPlan ["_law_size", "_law_thing"] f32 _ := ⟨F32, PySem.W.mg_of X Gn a32, F32.binds (ps := ["_law_size", "_law_thing"]) fun _ _ _ _ _ _ us hl => match us, hl with | [_, _], _ => rfl⟩
  have F33 := fun_mk (st := sLSize) l33 c33 k33
  have A33 : At K mg "_law_is_size" sLSize ["_law_thing"] f33 _ := ⟨F33, PySem.W.mg_of X Gn a33, F33.binds (ps := ["_law_thing"]) fun _ _ _ _ _ _ us hl => match us, hl with | [_], _ => rfl⟩
  have F34 := fun_mk (st := sTold) l34 c34 k34
  have A34 : At K mg "_law_told" sTold ["_law_ask"] f34 _ := ⟨F34, PySem.W.mg_of X Gn a34, F34.binds (ps := ["_law_ask"]) fun _ _ _ _ _ _ us hl => match us, hl with | [_], _ => rfl⟩
  have F35 := fun_mk (st := sFour) l35 c35 k35
  have A35 : At K mg "_law_four" sFour ["_law_box_here"] f35 _ := ⟨F35, PySem.W.mg_of X Gn a35, F35.binds (ps := ["_law_box_here"]) fun _ _ _ _ _ _ us hl => match us, hl with | [_], _ => rfl⟩
  have F36 := fun_mk (st := sDue) l36 c36 k36
  have A36 : At K mg "_law_due" sDue ["_law_size", "_law_plan_here", "_law_more", "_law_spot"] f36 _ := ⟨F36, PySem.W.mg_of X Gn a36, F36.binds (ps := ["_law_size", "_law_plan_here", "_law_more", "_law_spot"]) fun _ _ _ _ _ _ us hl => match us, hl with | [_, _, _, _], _ => rfl⟩
  have F37 := fun_mk (st := sRight) l37 c37 k37
  have A37 : At K mg "_law_right" sRight ["_law_box_here"] f37 _ := ⟨F37, PySem.W.mg_of X Gn a37, F37.binds (ps := ["_law_box_here"]) fun _ _ _ _ _ _ us hl => match us, hl with | [_], _ => rfl⟩
  have F38 := fun_mk (st := sLaw) l38 c38 k38
  have EX : Exc K mg CB CW CM CA e0 e2 e3 e5 _ _ _ _ :=
    { gB := PySem.W.mg_of X Gn gB, F0 := ⟨oI0, aI0, .ref TD, kI0, cI0, mI0, bI0, uI0, tI0, slI0, rfl, lI0, uc0⟩, b0 := fun s us X0 hl => match us, hl with | [_, _], _ => BindsTo.of_defaults rfl (X0 _ _ lT) rfl rfl rfl, cB := ⟨ga, rd, fc, kp⟩
      gW := PySem.W.mg_of X Gn gW, oW := ⟨⟨nm2, q2, N2, bs2, bm2, sn2, sub2, ab2, col2, dd2, m0x2, m1x2, m2x2, m3x2, m5x2, xW, hbW⟩, saW, exW, tyW, kpW⟩, noW := noVW, iW := iTW, tW := tIW
      F2 := ⟨oI2, aI2, .none, kI2, cI2, mI2, bI2, uI2, tI2, slI2, rfl, lIW, ucW⟩, b2 := fun s us _ hl => match us, hl with | [_, _], _ => .of_eq rfl, kW := ⟨clW, gaTW, ggW, exW, hdW, haTW, hn, ht, hmW⟩, eW := PySem.W.exm_ref eB hB tB sBW
      gM := PySem.W.mg_of X Gn gM, oM := ⟨⟨nm3, q3, N3, bs3, bm3, sn3, sub3, ab3, col3, dd3, m0x3, m1x3, m2x3, m3x3, m5x3, xM, hbM⟩, saM, exM, tyM, kpM⟩, noM := noVM, iM := iTM, tM := tIM
      F3 := ⟨oI3, aI3, .none, kI3, cI3, mI3, bI3, uI3, tI3, slI3, rfl, lIM, ucM⟩, b3 := fun s us _ hl => match us, hl with | [_, _], _ => .of_eq rfl, kM := ⟨clM, gaTM, ggM, exM, hdM, haTM, hn, ht, hmM⟩, eM := PySem.W.exm_ref eB hB tB sBM
      gA := PySem.W.mg_of X Gn gA, oA := ⟨⟨nm5, q5, N5, bs5, bm5, sn5, sub5, ab5, col5, dd5, m0x5, m1x5, m2x5, m3x5, m5x5, xA, hbA⟩, saA, exA, tyA, kpA⟩, noA := noVA, iA := iTA, tA := tIA
      F5 := ⟨oI5, aI5, .none, kI5, cI5, mI5, bI5, uI5, tI5, slI5, rfl, lIA, ucA⟩, b5 := fun s us _ hl => match us, hl with | [_, _], _ => .of_eq rfl, kA := ⟨clA, gaTA, ggA, exA, hdA, haTA, hn, ht, hmA⟩, eA := PySem.W.exm_ref eB hB tB sBA
      nMW := G.kit_ref neMW clW tyW sMW, nAW := G.kit_ref neAW clW tyW sAW, nAM := G.kit_ref neAM clM tyM sAM }
  have ED : VD.Exc K mg CB CD CW CM e0 e6 _ _ :=
    { gB := PySem.W.mg_of X Gn gB, gD := PySem.W.mg_of X Gn gD, gW := PySem.W.mg_of X Gn gW, gM := PySem.W.mg_of X Gn gM, oD := ⟨⟨nm6, q6, N6, bs6, bm6, sn6, sub6, ab6, col6, dd6, m0x6, m1x6, m2x6, m3x6, m5x6, xD, hbD⟩, saD, exD, tyD, kpD⟩, noV := noVD, iD := iTD, tI := tID
      F0 := ⟨oI0, aI0, .ref TD, kI0, cI0, mI0, bI0, uI0, tI0, slI0, rfl, lI0, uc0⟩, b0 := fun s us X0 hl => (fun h1 : us.length = 1 => match us, h1 with | [_], _ => BindsTo.of_defaults rfl (X0 _ _ lT) rfl rfl rfl) (by simpa using hl)
      F4 := ⟨oI6, aI6, .none, kI6, cI6, mI6, bI6, uI6, tI6, slI6, rfl, lID, ucD⟩, b4 := fun s us _ hl => match us, hl with | [_], _ => .of_eq rfl, cB := ⟨ga, rd, fc, kp⟩, kx := ⟨clD, gaTD, ggD, exD, hdD, haTD, hn, ht, hmD⟩, te := PySem.W.exm_ref eB hB tB sBD, nW := G.kit_ref neDW clW tyW sDW, nM := G.kit_ref neDM clM tyM sDM }
  have EN : VN.Exc K mg CB CN CW CM e0 e7 _ _ :=
    { gB := PySem.W.mg_of X Gn gB, gD := PySem.W.mg_of X Gn gN, gW := PySem.W.mg_of X Gn gW, gM := PySem.W.mg_of X Gn gM, oD := ⟨⟨nm7, q7, N7, bs7, bm7, sn7, sub7, ab7, col7, dd7, m0x7, m1x7, m2x7, m3x7, m5x7, xN, hbN⟩, saN, exN, tyN, kpN⟩, noV := noVN, iD := iTN, tI := tIN
      F0 := ⟨oI0, aI0, .ref TD, kI0, cI0, mI0, bI0, uI0, tI0, slI0, rfl, lI0, uc0⟩, b0 := fun s us X0 hl => (fun h1 : us.length = 1 => match us, h1 with | [_], _ => BindsTo.of_defaults rfl (X0 _ _ lT) rfl rfl rfl) (by simpa using hl)
      F4 := ⟨oI7, aI7, .none, kI7, cI7, mI7, bI7, uI7, tI7, slI7, rfl, lIN, ucN⟩, b4 := fun s us _ hl => match us, hl with | [_], _ => .of_eq rfl, cB := ⟨ga, rd, fc, kp⟩, kx := ⟨clN, gaTN, ggN, exN, hdN, haTN, hn, ht, hmN⟩, te := PySem.W.exm_ref eB hB tB sBN, nW := G.kit_ref neNW clW tyW sNW, nM := G.kit_ref neNM clM tyM sNM }
  have MO : More K CW CM CA CD CN := ⟨G.kit_ref neDA clA tyA sDA, G.kit_ref neNA clA tyA sNA, G.kit_ref neND clD tyD sND, G.kit_ref rfl clW tyW szW, G.kit_ref rfl clM tyM szM, G.kit_ref rfl clA tyA szA⟩
  have fr := fresh "_law_right" isr cc PT (tab_in a37 l37 rfl qc qp)
  refine ⟨PySem.W.fnOf "law" "law" (defArgs sLaw) (defBody sLaw) (defScope sLaw) .none kV38 dc38 pm38 an38 cd38 ct38, [(cc, PT)], spLaw K PT, fun p hp => ?_, fun p hp => ?_, fun p hp => ?_, fun s v => .of_eq rfl, fun H a ns hl hH hS => ⟨a, ns, rfl, hS, hl, fun p hp => ?_, fun _ => rfl⟩, fun base _ _ TBs => ?_⟩
  · rw [List.mem_singleton.mp hp]
    exact fr.2
  · rw [List.mem_singleton.mp hp]
    exact qn
  · rw [List.mem_singleton.mp hp]
    exact fr.1
  · rw [List.mem_singleton.mp hp]
    exact TabS.nil (hH (cc, PT) (List.mem_singleton.mpr rfl))
  have TB : TabB base mg cc PT := TBs (cc, PT) (List.mem_singleton.mpr rfl)
  have GJ := ok_joined (P := l.prog) (w := w) (base := base) EX A19 A0 A1 A2 A3 A4 A5 T
  have GK := two_kernel (CD := CD) (CN := CN) (P := l.prog) (w := w) (base := base) EX A17 A0 A1 A2 A3 A4 A5 A8 A9 A10 A11 A12 T
  have GC := two_bank_count (CD := CD) (CN := CN) (P := l.prog) (w := w) (base := base) EX A18 A0 A1 A2 A3 A4 A5 A8 A9 T
  have GO := two_completed (CN := CN) (P := l.prog) (w := w) (base := base) EX ED A21 A0 A1 A2 A3 A4 A5 A8 A9 A11 A13 T
  have GI := two_inverse (CD := CD) (P := l.prog) (w := w) (base := base) EX EN A22 A0 A1 A2 A3 A4 A5 A8 A9 A11 A13 A14 T
  have GB := two_bank (P := l.prog) (w := w) (base := base) EX A16 A0 A1 A2 A3 A4 A5 A6 A7 A15 T
  have GR := two_recoding (P := l.prog) (w := w) (base := base) EX A20 A0 A1 A2 A3 A4 A5 A8 A9 A14 T
  have G4 := ok_four (P := l.prog) (w := w) (base := base)  A35 A24 A25 A26 A27 A28 A29 T
  have GD := ok_due (P := l.prog) (w := w) (base := base) A36.fn A32 A30 A31 A33 T
  have GRt := ok_right l37 c37 TB EX ED EN MO A35 G4 A34 A36 GD A17 GK A18 GC A21 GO A22 GI A19 GJ A16 GB A20 GR T
  exact ok_law F38 A37.mg k37 A37.bi A23 GRt T
end X1
open PySem PySem.W PyProof.Rows
set_option maxRecDepth 100000 in
set_option maxHeartbeats 0 in
theorem PySem.Challenge.cw_xorbanks_k29_maps_refused_holds : PySem.Challenge.rw_xorbanks_k29_maps_refused.Holds := by
  w_on; o_law; k_head; (case hw => w_witness2)
  k_fill
  refine G.walk_T (l := PySem.Challenge.rw_xorbanks_k29_maps_refused) (n := 63) (k := 11) (x := "_law_script") rfl (by decide) rfl ⟨rfl, by decide, by decide⟩ (fun w h Y => PySem.W.km_in_of Y) ?F
  case F =>
    intro w mg fa h KX G hmg fresh
    refine' X1.all_mk KX G hmg fresh ?isr ?ain ?lin ?cin ?kin ?aiw ?liw ?ciw ?kiw ?a0 ?l0 ?c0 ?k0 ?a1 ?l1 ?c1 ?k1 ?a2 ?l2 ?c2 ?k2 ?a3 ?l3 ?c3 ?k3 ?a4 ?l4 ?c4 ?k4 ?a5 ?l5 ?c5 ?k5 ?a6 ?l6 ?c6 ?k6 ?a7 ?l7 ?c7 ?k7 ?a8 ?l8 ?c8 ?k8 ?a9 ?l9 ?c9 ?k9 ?a10 ?l10 ?c10 ?k10 ?a11 ?l11 ?c11 ?k11 ?a12 ?l12 ?c12 ?k12 ?a13 ?l13 ?c13 ?k13 ?a14 ?l14 ?c14 ?k14 ?a15 ?l15 ?c15 ?k15 ?a16 ?l16 ?c16 ?k16 ?a17 ?l17 ?c17 ?k17 ?a18 ?l18 ?c18 ?k18 ?a19 ?l19 ?c19 ?k19 ?a20 ?l20 ?c20 ?k20 ?a21 ?l21 ?c21 ?k21 ?a22 ?l22 ?c22 ?k22 ?a23 ?l23 ?c23 ?k23 ?a24 ?l24 ?c24 ?k24 ?a25 ?l25 ?c25 ?k25 ?a26 ?l26 ?c26 ?k26 ?a27 ?l27 ?c27 ?k27 ?a28 ?l28 ?c28 ?k28 ?a29 ?l29 ?c29 ?k29 ?a30 ?l30 ?c30 ?k30 ?a31 ?l31 ?c31 ?k31 ?a32 ?l32 ?c32 ?k32 ?a33 ?l33 ?c33 ?k33 ?a34 ?l34 ?c34 ?k34 ?a35 ?l35 ?c35 ?k35 ?a36 ?l36 ?c36 ?k36 ?a37 ?l37 ?c37 ?k37 ?a38 ?l38 ?c38 ?k38 ?z0 ?z1 ?z2 ?z3 ?z4 ?z5 ?z6 ?z7 ?z8 ?z9 ?z10 ?z11 ?z12 ?z13 ?z14 ?z15 ?z16 ?m0 ?m1 ?qc ?qp ?qn ?gB ?gW ?xW ?hbW ?saW ?exW ?tyW ?kpW ?noVW ?iTW ?tIW ?lIW ?ucW ?clW ?gaTW ?ggW ?hdW ?haTW ?hmW ?sBW ?gM ?xM ?hbM ?saM ?exM ?tyM ?kpM ?noVM ?iTM ?tIM ?lIM ?ucM ?clM ?gaTM ?ggM ?hdM ?haTM ?hmM ?sBM ?gA ?xA ?hbA ?saA ?exA ?tyA ?kpA ?noVA ?iTA ?tIA ?lIA ?ucA ?clA ?gaTA ?ggA ?hdA ?haTA ?hmA ?sBA ?gD ?xD ?hbD ?saD ?exD ?tyD ?kpD ?noVD ?iTD ?tID ?lID ?ucD ?clD ?gaTD ?ggD ?hdD ?haTD ?hmD ?sBD ?gN ?xN ?hbN ?saN ?exN ?tyN ?kpN ?noVN ?iTN ?tIN ?lIN ?ucN ?clN ?gaTN ?ggN ?hdN ?haTN ?hmN ?sBN ?ga ?rd ?fc ?kp ?lI0 ?lT ?uc0 ?hn ?ht ?eB ?hB ?tB ?neMW ?neAW ?neAM ?neDW ?neDM ?neNW ?neNM ?neDA ?neNA ?neND ?sMW ?sAW ?sAM ?sDW ?sDM ?sNW ?sNM ?sDA ?sNA ?sND ?szW ?szM ?szA
    (case isr => first | decide +kernel | rfl)
    (case ain => k_is)
    (case lin => k_is)
    (case cin => k_is)
    (case kin => k_is)
    (case aiw => k_is)
    (case liw => k_is)
    (case ciw => k_is)
    (case kiw => k_is)
    (case a0 => k_is)
    (case l0 => k_is)
    (case c0 => k_is)
    (case k0 => k_is)
    (case a1 => k_is)
    (case l1 => k_is)
    (case c1 => k_is)
    (case k1 => k_is)
    (case a2 => k_is)
    (case l2 => k_is)
    (case c2 => k_is)
    (case k2 => k_is)
    (case a3 => k_is)
    (case l3 => k_is)
    (case c3 => k_is)
    (case k3 => k_is)
    (case a4 => k_is)
    (case l4 => k_is)
    (case c4 => k_is)
    (case k4 => k_is)
    (case a5 => k_is)
    (case l5 => k_is)
    (case c5 => k_is)
    (case k5 => k_is)
    (case a6 => k_is)
    (case l6 => k_is)
    (case c6 => k_is)
    (case k6 => k_is)
    (case a7 => k_is)
    (case l7 => k_is)
    (case c7 => k_is)
    (case k7 => k_is)
    (case a8 => k_is)
    (case l8 => k_is)
    (case c8 => k_is)
    (case k8 => k_is)
    (case a9 => k_is)
    (case l9 => k_is)
    (case c9 => k_is)
    (case k9 => k_is)
    (case a10 => k_is)
    (case l10 => k_is)
    (case c10 => k_is)
    (case k10 => k_is)
    (case a11 => k_is)
    (case l11 => k_is)
    (case c11 => k_is)
    (case k11 => k_is)
    (case a12 => k_is)
    (case l12 => k_is)
    (case c12 => k_is)
    (case k12 => k_is)
    (case a13 => k_is)
    (case l13 => k_is)
    (case c13 => k_is)
    (case k13 => k_is)
    (case a14 => k_is)
    (case l14 => k_is)
    (case c14 => k_is)
    (case k14 => k_is)
    (case a15 => k_is)
    (case l15 => k_is)
    (case c15 => k_is)
    (case k15 => k_is)
    (case a16 => k_is)
    (case l16 => k_is)
    (case c16 => k_is)
    (case k16 => k_is)
    (case a17 => k_is)
    (case l17 => k_is)
    (case c17 => k_is)
    (case k17 => k_is)
    (case a18 => k_is)
    (case l18 => k_is)
    (case c18 => k_is)
    (case k18 => k_is)
    (case a19 => k_is)
    (case l19 => k_is)
    (case c19 => k_is)
    (case k19 => k_is)
    (case a20 => k_is)
    (case l20 => k_is)
    (case c20 => k_is)
    (case k20 => k_is)
    (case a21 => k_is)
    (case l21 => k_is)
    (case c21 => k_is)
    (case k21 => k_is)
    (case a22 => k_is)
    (case l22 => k_is)
    (case c22 => k_is)
    (case k22 => k_is)
    (case a23 => k_is)
    (case l23 => k_is)
    (case c23 => k_is)
    (case k23 => k_is)
    (case a24 => k_is)
    (case l24 => k_is)
    (case c24 => k_is)
    (case k24 => k_is)
    (case a25 => k_is)
    (case l25 => k_is)
    (case c25 => k_is)
    (case k25 => k_is)
    (case a26 => k_is)
    (case l26 => k_is)
    (case c26 => k_is)
    (case k26 => k_is)
    (case a27 => k_is)
    (case l27 => k_is)
    (case c27 => k_is)
    (case k27 => k_is)
    (case a28 => k_is)
    (case l28 => k_is)
    (case c28 => k_is)
    (case k28 => k_is)
    (case a29 => k_is)
    (case l29 => k_is)
    (case c29 => k_is)
    (case k29 => k_is)
    (case a30 => k_is)
    (case l30 => k_is)
    (case c30 => k_is)
    (case k30 => k_is)
    (case a31 => k_is)
    (case l31 => k_is)
    (case c31 => k_is)
    (case k31 => k_is)
    (case a32 => k_is)
    (case l32 => k_is)
    (case c32 => k_is)
    (case k32 => k_is)
    (case a33 => k_is)
    (case l33 => k_is)
    (case c33 => k_is)
    (case k33 => k_is)
    (case a34 => k_is)
    (case l34 => k_is)
    (case c34 => k_is)
    (case k34 => k_is)
    (case a35 => k_is)
    (case l35 => k_is)
    (case c35 => k_is)
    (case k35 => k_is)
    (case a36 => k_is)
    (case l36 => k_is)
    (case c36 => k_is)
    (case k36 => k_is)
    (case a37 => k_is)
    (case l37 => k_is)
    (case c37 => k_is)
    (case k37 => k_is)
    (case a38 => k_is)
    (case l38 => k_is)
    (case c38 => k_is)
    (case k38 => k_is)
    (case z0 => k_is)
    (case z1 => k_is)
    (case z2 => k_is)
    (case z3 => k_is)
    (case z4 => k_is)
    (case z5 => k_is)
    (case z6 => k_is)
    (case z7 => k_is)
    (case z8 => k_is)
    (case z9 => k_is)
    (case z10 => k_is)
    (case z11 => k_is)
    (case z12 => k_is)
    (case z13 => k_is)
    (case z14 => k_is)
    (case z15 => k_is)
    (case z16 => k_is)
    (case m0 => k_is)
    (case m1 => k_is)
    (case qc => k_is)
    (case qp => rfl)
    (case qn => rfl)
    (case gB => k_is)
    (case gW => k_is)
    (case xW => k_is)
    (case hbW => rfl)
    (case saW => k_is)
    (case exW => k_is)
    (case tyW => k_is)
    (case kpW => k_is)
    (case noVW => k_is)
    (case iTW => k_is)
    (case tIW => k_is)
    (case lIW => k_is)
    (case ucW => k_is)
    (case clW => k_is)
    (case gaTW => k_is)
    (case ggW => k_is)
    (case hdW => k_is)
    (case haTW => k_is)
    (case hmW => k_is)
    (case sBW => k_is)
    (case gM => k_is)
    (case xM => k_is)
    (case hbM => rfl)
    (case saM => k_is)
    (case exM => k_is)
    (case tyM => k_is)
    (case kpM => k_is)
    (case noVM => k_is)
    (case iTM => k_is)
    (case tIM => k_is)
    (case lIM => k_is)
    (case ucM => k_is)
    (case clM => k_is)
    (case gaTM => k_is)
    (case ggM => k_is)
    (case hdM => k_is)
    (case haTM => k_is)
    (case hmM => k_is)
    (case sBM => k_is)
    (case gA => k_is)
    (case xA => k_is)
    (case hbA => rfl)
    (case saA => k_is)
    (case exA => k_is)
    (case tyA => k_is)
    (case kpA => k_is)
    (case noVA => k_is)
    (case iTA => k_is)
    (case tIA => k_is)
    (case lIA => k_is)
    (case ucA => k_is)
    (case clA => k_is)
    (case gaTA => k_is)
    (case ggA => k_is)
    (case hdA => k_is)
    (case haTA => k_is)
    (case hmA => k_is)
    (case sBA => k_is)
    (case gD => k_is)
    (case xD => k_is)
    (case hbD => rfl)
    (case saD => k_is)
    (case exD => k_is)
    (case tyD => k_is)
    (case kpD => k_is)
    (case noVD => k_is)
    (case iTD => k_is)
    (case tID => k_is)
    (case lID => k_is)
    (case ucD => k_is)
    (case clD => k_is)
    (case gaTD => k_is)
    (case ggD => k_is)
    (case hdD => k_is)
    (case haTD => k_is)
    (case hmD => k_is)
    (case sBD => k_is)
    (case gN => k_is)
    (case xN => k_is)
    (case hbN => rfl)
    (case saN => k_is)
    (case exN => k_is)
    (case tyN => k_is)
    (case kpN => k_is)
    (case noVN => k_is)
    (case iTN => k_is)
    (case tIN => k_is)
    (case lIN => k_is)
    (case ucN => k_is)
    (case clN => k_is)
    (case gaTN => k_is)
    (case ggN => k_is)
    (case hdN => k_is)
    (case haTN => k_is)
    (case hmN => k_is)
    (case sBN => k_is)
    (case ga => k_is)
    (case rd => k_is)
    (case fc => k_is)
    (case kp => k_is)
    (case lI0 => k_is)
    (case lT => k_is)
    (case uc0 => k_is)
    (case hn => k_is)
    (case ht => k_is)
    (case eB => k_is)
    (case hB => k_is)
    (case tB => k_is)
    (case neMW => rfl)
    (case neAW => rfl)
    (case neAM => rfl)
    (case neDW => rfl)
    (case neDM => rfl)
    (case neNW => rfl)
    (case neNM => rfl)
    (case neDA => rfl)
    (case neNA => rfl)
    (case neND => rfl)
    (case sMW => k_is)
    (case sAW => k_is)
    (case sAM => k_is)
    (case sDW => k_is)
    (case sDM => k_is)
    (case sNW => k_is)
    (case sNM => k_is)
    (case sDA => k_is)
    (case sNA => k_is)
    (case sND => k_is)
    (case szW => k_is)
    (case szM => k_is)
    (case szA => k_is)
    all_goals exact Value.none
