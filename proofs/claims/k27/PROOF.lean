import PyProof.Rows.All
import Wide.All
import OpenK.AllK
import Wide.FinOn
import HandS.ForMost
import HandS.Wide
import HandS.IsInst
import PyProof.FString3
import PyProof.ReprRoads
import PyProof.Rows.StrIntSpec
import PyProof.Rows.RegReprOcc
import HandS.ExcInit
import HandS.ExcField
import HandS.ExcIs
import HandS.CallSlots
import HandS.WordsExc
import HandS.TryOnly
import KE.KExcIs
import HandS.Lambda
import HandS.EndTab
import KE.KNest
import HandS.Walk
import HandS.Zip0
import KE.GoesEnum
import HandS.SortInts
import HandS.More
import HandS.Text
import HandS.SetKeys
import HandS.WideBits
import HandS.Strs
import HandS.SetFor
import HandS.Zip
import HandS.TupAny
import PyProof.ReprLen
import PyProof.P3Eq
import HandS.WordsDict
import HandS.Conv
import PySem.Challenge.RW_xorbanks_k27_maps_completed
set_option Elab.async false
set_option maxRecDepth 100000
set_option maxHeartbeats 4000000
/-! Rules of my own: powers of great ints, {n:b}, repr of data, defs that know their guards. -/
namespace G
open PySem PySem.Spec PyProof.Rows L2
open PySem.Builtin PySem.Builtin.Str PySem.Builtin.Int PySem.Builtin.Float

def CPowW (i j : Int) : Prop := 0 ≤ j ∧ (Builtin.Int.intBits i : Int) * j ≤ 2 ^ 27
theorem op_powW {X : Cx} : OpR X (binaryOp .Pow) (rI CPowW fun i j => .int (i ^ j.toNat)) :=
  opI fun _ _ _ _ _ _ _ hc q => pow_int hc.1 hc.2 q

/-! ### the binary digits of a number as a text -/
def binL (n : Nat) : List Nat := (Nat.toDigits 2 n).map Char.toNat
def binText (n : Nat) : Str := ⟨(binL n).toArray⟩

theorem binL_ne (n : Nat) : binL n ≠ [] := by
  intro e
  have h := congrArg List.length e
  have h2 := tDigits_len_ge 2 n
  unfold binL at h
  rw [List.length_map] at h
  simp at h
theorem intField_plain {ds : List Nat} {g : Nat} (h : ds ≠ []) : intField' { align := 62, type := some 98 } false [] ds [] g = ⟨ds.toArray⟩ := by
  cases ds with
  | nil => exact absurd rfl h
  | cons d ds =>
    have e : ((-1 : Int) - (0 + 0 + 0) - ((d :: ds).length : Nat)).toNat = 0 := by
      rw [List.length_cons]
      omega
    unfold intField'
    simp
    omega

theorem gives_b (n : Nat) (t u : Tok) : Gives (Builtin.«int.__format__» ⟨[.int (n : Int) t, .str (Str.ofString "b") u], []⟩) (.str (binText n)) := by
  intro prog w A R s hq
  unfold Builtin.«int.__format__»
  have hne : ((Str.ofString "b").length == 0) = false := by decide +kernel
  have hasc : (((Str.ofString "b").cps.toList.drop 1).any (· ≥ 128) || ((Str.ofString "b").cps.getD 0 0 ≥ 128 && !([60, 62, 61, 94] : List Nat).contains ((Str.ofString "b").cps.getD 1 0))) = false := by decide +kernel
  simp only [selfAndOne, noKeywords, Int.intOfSelf, asInt?, asStr?, List.isEmpty_nil, if_true, pure_bind, bind_pure, bind_assoc, hne, hasc, Bool.false_eq_true, if_false,
    show (Value.str (Str.ofString "b") u == Value.none) = false from rfl]
  refine wpAny_bind (wpAny_typeNameOf (T := "str") (typeIs_str _ _ _) (by decide) fun _ => ?_)
  refine wpAny_bind (wpAny_typeNameOfCut_int ?_)
  have hp : ∃ f, parseFormatSpec (Str.ofString "b").cps.toList "int" 62 = .ok f ∧ f = { align := 62, type := some 98 } := ⟨_, rfl, by rfl⟩
  obtain ⟨f, hp, hf⟩ := hp
  rw [hp]
  dsimp only
  subst hf
  rw [if_pos (by decide)]
  show wpAny _ _ (retStr (intField' { align := 62, type := some 98 } (decide ((n : Int) < 0)) [] (binL n) [] 4)) _ _ _
  rw [show decide ((n : Int) < 0) = false from decide_eq_false (by omega), intField_plain (binL_ne n)]
  exact gives_retStr (binText n) prog w A R s hq

/-- {n:b} -/
def tFmtB (te : TE) : TE := fun σ H Q => te σ H fun x H1 => ∃ n : Nat, x = .int (n : Int) ∧ n < 2 ^ 2000 ∧ Q (.str (binText n)) H1
theorem binText_len {n k : Nat} (hk : 1 ≤ k) (h : n < 2 ^ k) : (binText n).length ≤ k := by
  have := toDigits_len_pow (b := 2) (by decide) hk h
  show (binL n).toArray.size ≤ k
  unfold binL
  rw [List.size_toArray, List.length_map]
  exact this
theorem pe_fmtB {X : Cx} {e : Expr} {te : TE} {p1 p2 pos : Pos} (he : PE X e te) :
    PE X (.FormattedValue e (-1) (some (.JoinedStr [.Constant (.str (Str.ofString "b")) 0 p1] p2)) pos) (tFmtB te) := by
  refine ⟨fun pins s σ H Q I h => ?_⟩
  refine wpAny_FormattedValue_spec (thn (he.run pins s σ H _ I h) fun v s1 hv => ?_)
  obtain ⟨x, H1, I1, r1, n, rfl, hn, q⟩ := hv
  obtain ⟨t, rfl⟩ := r1
  refine JoinedStr_one (wpAny_Constant_str ?_)
  refine ⟨_, _, rfl, ?_⟩
  exact wpAny_formatField_spec (by decide +kernel) (fun s' => typeIs_int s' _ _) F.slot_int_format F.entry_int_format F.args_int_format_2 (fun u => gives_b n t u)
    ⟨.str (binText n), H1, (I1.tok _).tok _, ⟨_, rfl⟩, q⟩ (by decide +kernel) (Nat.le_trans (binText_len (k := 2000) (by decide) hn) (by rw [sizeLine_eq]; decide))

/-! ### repr of data: wants that nothing is being shown around -/
theorem call_repr_data {X : Cx} {k : Nat} (hg : X.A.guards = some []) (hr : Room k X.A) :
    CallR X (.builtin "repr") (fun xs H Q => ∃ (p : Addr) (d : PyData), xs = [.ref p] ∧ Dp X.K H (.ref p) d ∧ d.showable = true ∧ d.hasDict = false ∧ d.depth ≤ 60 ∧ d.shown.length ≤ sizeLine ∧ Q (.str d.shown) H) := by
  intro pins s σ H xs us Q I r h
  obtain ⟨p, d, rfl, hd, hs, hn, hdp, hsz, q⟩ := h
  obtain ⟨u, rfl, hu⟩ := vals1 r
  obtain ⟨as, rd⟩ := Dp.reads I d _ u hd hu
  cases (show u = Value.ref p from hu)
  have hU := hr.units
  refine repr_of_reads' rd hs (fun z => by rw [hn] at z; cases z) hg (by omega) (fun b o e => e) (fun h' u tk hk => ?_) hsz
  exact ⟨.str d.shown, H, I.kept (t' := tk) hk, ⟨_, rfl⟩, q⟩

/-! ### f(k = v, ..), no argument by position -/
section
variable {X : Cx} {CX : CXT} {k : Nat} {f : Addr} {fd : FuncData} {ps ks : List Str} {sp : Sp} {E : XK} {x : Str} {p pos : Pos} {kws : List Keyword} {tk : TA} {g : List Value → List Value → List Value} {gV : List V → List V → List V}
theorem pe_callK0 (F : FnOk X.prog X.w X.K X.mg X.base CX k f fd ps sp) (hr : Room k X.A) (hg : Gl X x) (hm : X.mg x = some (.ref f)) (hk : PySem.W.keepIn X.K (.ref f) = true)
    (hb : KBinds X.K fd ps ks g gV) (hx : Passes CX X E) (hkw : PK X kws tk) (hall : (backToKw pos (keywordEach kws X.env)).all (·.1.isSome) = true := by rfl)
    (hks : (backToKw pos (keywordEach kws X.env)).filterMap (·.1) = ks := by rfl) (hdb : (x == ("__debug__" : Str)) = false := by decide)
    (hpl : (backToKw pos (keywordEach kws X.env)).any (·.1.isNone) = false := by rfl) :
    PE X (.Call (.Name x p) [] kws pos) (tCallK sp gV E tNil tk) := by
  refine ⟨fun pins s σ H Q I h => ?_⟩
  refine wpAny_Call_Name_kw (ld_glob I hg hm ?_ hdb)
  refine PySem.W.callWith_KW0 (h₀ := X.base) I.ok.mod.kin hk hall (thn (hkw.run pos pins s σ H _ I h) fun ws s2 ⟨zs, H2, I2, rz, q2⟩ => ⟨I2.kIn, ?_⟩) hpl
  rw [hks]
  exact run_fnk F hr hb hx I2 .nil rz q2
end

/-! ### a def of which it is known that nothing is being shown around -/
structure FnG (P : Program) (w : World) (K : PySem.W.Frag) (mg : Str → Option Value) (base : Heap) (k : Nat) (f : Addr) (fd : FuncData) (ps : List Str) (sp : Sp) : Prop where
  len : ∀ vs H Q E, sp vs H Q E → vs.length = ps.length
  run : ∀ (A : Around) (outer : List Env) (s : Shared) (H : Hp) (args : Args) (us : List Value) (vs : List V) (Q : VK) (E : XK), A.guards = some [] → Room k A → Env0 P w K mg base A outer s H →
    BindsTo s fd args (ps.zip us) → Vals vs us → sp vs H Q E → codeAny (model P w) A (.call (.ref f) args) (CR CX0 outer P w H s Q E) s
end G
set_option Elab.async false
set_option maxRecDepth 100000
set_option maxHeartbeats 4000000
namespace G
open PySem PySem.Spec PyProof.Rows L2
section
variable {P : Program} {w : World} {K : PySem.W.Frag} {mg : Str → Option Value} {base : Heap}
theorem FnG.mono {j k : Nat} {f : Addr} {fd : FuncData} {ps : List Str} {sp : Sp} (F : FnG P w K mg base j f fd ps sp) (h : j ≤ k) : FnG P w K mg base k f fd ps sp :=
  ⟨F.len, fun A outer s H args us vs Q E hg hr => F.run A outer s H args us vs Q E hg (hr.mono h)⟩
/-- a def of the text, by its body -/
theorem okG {x qual : Str} {st : Stmt} {f : Addr} {fd : FuncData} {N ps : List Str} {k : Nat} {sp : Sp} (F : Fun K x qual st f fd) (S : FnScope N ps (defScope st)) (len : ∀ vs H Q E, sp vs H Q E → vs.length = ps.length)
    (body : ∀ (cdv : Value) (A : Around) (outer : List Env) (s : Shared) (H : Hp) (vs : List V) (Q : VK) (E : XK), A.guards = some [] → Room k (A.deeper (envOfC qual (defScope st) s.heap.objs.size f cdv)) → sp vs H Q E →
      ∃ t, PSs (cxOf CX0 P w K mg base N qual (defScope st) f cdv A outer s H E).nox (defBody st) t ∧ t { nx := fun _ H' => Q .non H', rt := Q } (start N vs) H) :
    FnG P w K mg base (k + 1) f fd ps sp := by
  obtain ⟨oc, od, kV, doc, pm, an, cdv, ct, osl, efd, lk, hcd⟩ := F.ex
  subst efd
  refine ⟨len, fun A outer s H args us vs Q E hg hr e0 hb r hsp => ?_⟩
  refine Att.call_fn (e0.mod.kin.keeps fun b o z => (e0.bs b o z).1) (e0.mod.nolimit.keeps fun b o z => (e0.bs b o z).1) lk hcd hr.depth hb ?_ (fun s1 x => ?_) S.co S.gen S.kind
  · rw [List.all_eq_true]
    rintro ⟨n, v⟩ hy
    rcases S.par n (List.of_mem_zip hy).1 with q | q
    · show (_ == _ || _) = true
      rw [q]
      rfl
    · show (_ || _ == _) = true
      rw [q]
      rfl
  · obtain ⟨t, ht, hq⟩ := body cdv A outer s H vs Q E hg (hr.deeper _) hsp
    have I := inv_start (CX := CX0) (E := E) S hr.hd e0 (len _ _ _ _ hsp) r x
    refine wpAny_mono (ht.nox.run [] s1 (start N vs) H _ I hq) (fun fl s' hs => ?_) fun e s' hs => hs
    cases fl with
    | ret u =>
      obtain ⟨v, σ', H', J, rv, q⟩ := hs
      exact ⟨v, H', J.os, J.bare, J.base, J.hok, rv, q⟩
    | next =>
      obtain ⟨σ', H', J, q⟩ := hs
      exact ⟨V.non, H', J.os, J.bare, J.base, J.hok, rfl, q⟩
    | brk =>
      obtain ⟨_, _, _, q⟩ := hs
      exact False.elim q
    | cont =>
      obtain ⟨_, _, _, q⟩ := hs
      exact False.elim q
/-- a def that does not mind -/
theorem FnG.of {k : Nat} {f : Addr} {fd : FuncData} {ps : List Str} {sp : Sp} (F : FnOk P w K mg base CX0 k f fd ps sp) : FnG P w K mg base k f fd ps sp :=
  ⟨F.len, fun A outer s H args us vs Q E _ => F.run A outer s H args us vs Q E⟩
end
section
variable {X : Cx} {k : Nat} {f : Addr} {fd : FuncData} {ps : List Str} {sp : Sp} {dvs : List V} {ds : List Value} {x : Str} {p pos : Pos} {e : Expr} {es : List Expr} {t : TA}
theorem pe_callG (F : FnG X.prog X.w X.K X.mg X.base k f fd ps sp) (hgu : X.A.guards = some []) (hr : Room k X.A) (hg : Gl X x) (hm : X.mg x = some (.ref f)) (hk : PySem.W.keepIn X.K (.ref f) = true) (hb : Binds X.K fd ps ds) (hd : Vals dvs ds)
    (ha : PA X (e :: es) t) (hdb : (x == ("__debug__" : Str)) = false := by decide) (he : starEach (e :: es) X.env = (false, eval e X.env) :: starEach es X.env := by rfl)
    (hpl : (backTo pos (starEach es X.env)).any (·.1) = false := by rfl) : PE X (.Call (.Name x p) (e :: es) [] pos) (tCall sp dvs E0 t) := by
  refine ⟨fun pins s σ H Q I h => wpAny_Call_Name_kw (ld_glob I hg hm ?_ hdb)⟩
  refine PySem.W.callWith_K (h₀ := X.base) I.ok.mod.kin hk (thn (ha.run pos pins s σ H _ I h) fun us s1 ⟨vs, H1, I1, r, q⟩ => ⟨I1.kIn, ?_⟩) he hpl
  have r2 : Vals (vs ++ dvs) (us ++ ds) := r.append hd
  refine wpAny_call (codeAny_mono (F.run X.A X.stack s1 H1 ⟨us, []⟩ (us ++ ds) (vs ++ dvs) Q E0 hgu hr I1.env0 (hb s1 us I1.kIn (r2.length.symm.trans (F.len _ _ _ _ q))) r2 q) fun r s' hq => ?_)
  match r, hq with
  | .ok (.ret u), hq => exact I1.after hq
end
/-! ### the law's own call -/
/-- what is tracked ahead of the law: the script, where it is none of the module's own objects -/
def scr (K : PySem.W.Frag) (a : Addr) (vs : List Value) (ns : List Int) : Hp := fun b => if b = a ∧ K.lookup a = none then some (.frz { cls := .type "list", data := .seq vs.toArray } (.lst (ns.map V.int))) else none
theorem scr_or (K : PySem.W.Frag) (a : Addr) (vs : List Value) (ns : List Int) (b : Addr) :
    scr K a vs ns b = none ∨ (b = a ∧ K.lookup a = none ∧ scr K a vs ns b = some (.frz { cls := .type "list", data := .seq vs.toArray } (.lst (ns.map V.int)))) := by
  by_cases h : b = a ∧ K.lookup a = none
  · exact .inr ⟨h.1, h.2, if_pos h⟩
  · exact .inl (if_neg h)
section
variable {P : Program} {w : World} {K : PySem.W.Frag} {mg mb : Str → Option Value} {k : Nat} {fa a : Addr} {fd : FuncData} {x : Str} {sp : Sp} {s₁ : Shared} {vs : List Value} {ns : List Int}
theorem law_runs (KX : K.In s₁.heap) (hns : s₁.heap.Ns mainGlobals mg) (hb : s₁.heap.Ns builtinsNs mb) (hbb : ∀ x : Str, x ≠ "__name__" → mb x = bootBuiltins x) (hlim : s₁.heap.NoLimit) (hg : s₁.gens = #[])
    (ha : s₁.heap.get? a = some { cls := .type "list", data := .seq vs.toArray }) (hi : IntsAre vs ns) (hl : ns.length ≤ sizeLine) (hr : Room k callerA)
    (F : ∀ base : Heap, K.In base → base.Ns mainGlobals mg → FnG P w K mg base k fa fd [x] sp) (hbind : ∀ (s : Shared) (u : Value), BindsTo s fd ⟨[u], []⟩ [(x, u)])
    (hsp : ∀ H : Hp, SqL K H a (ns.map V.int) → sp [.ref a] H (fun v _ => v = .bl true) fun _ _ _ => False) :
    codeAny (model P w) callerA (.call (.ref fa) ⟨[.ref a], []⟩) (fun r s' => r = .ok (.ret (.bool true)) ∧ OldK s₁.heap s'.heap ∧ s'.os = s₁.os ∧ AllBare s'.gens) s₁ := by
  have tell := scr_or K a vs ns
  have rv := vals_ints hi
  have sees : SqL K (scr K a vs ns) a (ns.map V.int) := by
    cases hk : K.lookup a with
    | none => exact .inl (.inr ⟨_, if_pos ⟨rfl, hk⟩⟩)
    | some o =>
      have e := ha.symm.trans (KX a o hk)
      cases e
      exact .inr ⟨_, vs.toArray, _, hk, rfl, rfl, rfl, by rw [List.size_toArray, hi.length]; exact hl, by simpa using rv⟩
  have okH : HOk P w (scr K a vs ns) s₁.heap := fun b u z => by
    rcases tell b with q | ⟨rfl, _, q⟩
    · cases q.symm.trans z
    · cases q.symm.trans z
      exact ⟨ha, by rw [List.length_map]; exact hl, vs, _, rv, ha⟩
  have low : ∀ {b : Addr} {m : Str → Option Value}, s₁.heap.Ns b m → (hidT s₁.heap (scr K a vs ns)).Ns b m := by
    rintro b m ⟨o, es, ep, e, d, r⟩
    refine ⟨o, es, ep, hidT_get e ?_, d, r⟩
    rcases tell b with q | ⟨rfl, _, _⟩
    · exact q
    · cases ha.symm.trans e
      cases d
  have lowK : K.In (hidT s₁.heap (scr K a vs ns)) := fun b o e => hidT_get (KX b o e) (by
    rcases tell b with q | ⟨rfl, z, _⟩
    · exact q
    · cases z.symm.trans e)
  obtain ⟨mc, c1, c2⟩ := hlim
  have e0 : Env0 P w K mg (hidT s₁.heap (scr K a vs ns)) callerA [] s₁ (scr K a vs ns) :=
    { frames := rfl, mod := ⟨lowK, low hns, ⟨mb, low hb, hbb⟩, ⟨mc, low c1, c2⟩⟩, bs := fun b o e => of_hidT e, bsz := Nat.le_of_eq (hidT_size _ _), funs := trivial,
      frf := fun b z => (List.not_mem_nil (show b ∈ ([] : List Addr) from z)).elim, hok := okH, bare := .of_eq hg }
  refine codeAny_mono ((F _ lowK (low hns)).run callerA [] s₁ _ ⟨[.ref a], []⟩ [.ref a] [.ref a] _ _ rfl hr e0 (hbind s₁ (.ref a)) (.cons rfl .nil) (hsp _ sees)) fun r s' h => ?_
  match r, h with
  | .ok (.ret u), ⟨v, H', os, bare, un, hok', r', q⟩ =>
    subst q
    cases (show u = Value.bool true from r')
    refine ⟨rfl, OldK.of_keep fun b o e => ?_, os, bare⟩
    rcases tell b with z | ⟨rfl, _, z⟩
    · exact un.keep b o e z (fun z => List.not_mem_nil (show b ∈ ([] : List Addr) from z)) List.not_mem_nil
    · cases ha.symm.trans e
      exact (hok' b _ (un.frzs b _ _ z)).1
end
theorem walk_G {l : PySem.W.OpenLaw} {n k : Nat} {q : Program} {loose : List Str} {XP : (Str → Option Value) → Heap → Prop} {YP : World → Heap → Prop} {d : DefRec} {K : Params → PySem.W.Frag} {sp : PySem.W.Frag → Sp} {x : Str}
    (hn : l.most = some n) (hn2 : n ≤ sizeLine) (hdf : d.params.defaults = []) (hr : Room k callerA) (hY : ∀ (w : World) (h : Heap), YP w h → (K w.params).In h)
    (F : ∀ (w : World) (mg : Str → Option Value) (fa : Addr) (h : Heap), (K w.params).In h → h.Ns mainGlobals mg → mg d.name = some (.ref fa) →
      ∃ fd : FuncData, (∀ (s : Shared) (u : Value), BindsTo s fd ⟨[u], []⟩ [(x, u)]) ∧ ∀ base : Heap, (K w.params).In base → base.Ns mainGlobals mg → FnG l.prog w (K w.params) mg base k fa fd [x] (sp (K w.params)))
    (hsp : ∀ (K : PySem.W.Frag) (H : Hp) (a : Addr) (ns : List Int), ns.length ≤ n → SqL K H a (ns.map V.int) → sp K [.ref a] H (fun v _ => v = .bl true) fun _ _ _ => False) :
    PySem.W.WalkO q loose XP YP l.row.toRowW d [] (fun f vs => PySem.call f vs) := by
  refine Att.attach_call hn hdf fun w s₀ s₁ mg mb fa o pm cd doc a vs ns G Y ho hd hcd hmg hobj hints hlen hg => ?_
  obtain ⟨fd, hb, hF⟩ := F w mg fa _ (hY w _ Y) G.T.g hmg
  exact law_runs (hY w _ Y) G.T.g G.T.b G.T.builtins G.T.nolimit hg hobj hints (Nat.le_trans hlen hn2) hr hF hb fun H hS => hsp _ H a ns hlen hS
end G
set_option Elab.async false
set_option maxRecDepth 100000
set_option maxHeartbeats 4000000
/-! own exceptions whose __init__ calls the base's by its class -/
namespace G
open PySem PySem.Spec PyProof.Rows L2
/-- the def fI stands in the class C under n -/
structure ClsFn (K : PySem.W.Frag) (C fI : Addr) (n : Str) : Prop where
  ga : PySem.W.specialIn K (.ref C) "__getattribute__" = some (some (.builtin "type.__getattribute__"))
  rd : PySem.W.readsIn K C (.type "type") = true
  at_ : PySem.W.findCls K (.ref C) (.type "type") n = some (.val (.ref fI))
  kp : PySem.W.keepIn K (.ref fI) = true
section
variable {X : Cx} {CX : CXT} {k : Nat} {C fI : Addr} {fd : FuncData} {ps : List Str} {sp : Sp} {dvs : List V} {ds : List Value} {E : XK} {x n : Str} {p1 p2 pos : Pos} {e : Expr} {es : List Expr} {t : TA}
/-- C.n(e, ..) -/
theorem pe_clsfn {pl : Sem Bool} (F : FnOk X.prog X.w X.K X.mg X.base CX k fI fd ps sp) (hr : Room k X.A) (c : ClsFn X.K C fI n) (hg : Gl X x) (hm : X.mg x = some (.ref C)) (hb : Binds X.K fd ps ds) (hd : Vals dvs ds) (hx : Passes CX X E) (ha : PA X (e :: es) t)
    (hc : eval (.Call (.Attribute (.Name x p1) n p2) (e :: es) [] pos) X.env = (do
      let ov ← eval (.Name x p1) X.env
      standAt p2.atName
      let (f, first) ← holding [ov] (getMethod ov n pl)
      callWith pos f first (backTo pos (starEach (e :: es) X.env)) (backToKw pos (keywordEach [] X.env))) := by rfl)
    (hdb : (x == ("__debug__" : Str)) = false := by decide) (he : starEach (e :: es) X.env = (false, eval e X.env) :: starEach es X.env := by rfl) (hpl : (backTo pos (starEach es X.env)).any (·.1) = false := by rfl) :
    PE X (.Call (.Attribute (.Name x p1) n p2) (e :: es) [] pos) (tCall sp dvs E t) := by
  refine ⟨fun pins s σ H Q I h => ?_⟩
  refine PySem.W.methodCall_KW (ld_glob I hg hm ?_ hdb) hc
  refine PySem.W.method_cls I.kIn c.ga (PySem.W.cls_value I.kIn c.rd c.at_ (handed_of (v := .ref fI) rfl) ?_)
  refine PySem.W.callWith_K (h₀ := X.base) I.ok.mod.kin c.kp (thn (ha.run pos pins _ σ H _ (I.tok _) h) fun us s1 ⟨vs, H1, I1, r, q⟩ => ⟨I1.kIn, ?_⟩) he hpl
  exact run_fn F hr hb hd hx I1 r q
end
/-- a def of the text that may have defaults -/
structure FunD (K : PySem.W.Frag) (x qual : Str) (st : Stmt) (f : Addr) (fd : FuncData) : Prop where
  ex : ∃ (oc : Value) (od : Option Addr) (dV kV doc pm : Value) (an : Option Addr) (cdv ct : Value) (osl : Array (Option Value)),
    fd = PySem.W.fnOf x qual (defArgs st) (defBody st) (defScope st) dV kV doc pm an cdv ct ∧ K.lookup f = some ⟨oc, od, .func fd, osl⟩ ∧ PySem.W.codeIn K cdv qual = true
/-- what __init__(self, value) leaves: the field -/
def spInit : PySem.W.Frag → Sp := fun K vs H Q _ => ∃ (a C : Addr) (v : V), vs = [.ref a, v] ∧ OexC K C ∧ PySem.W.findIn K (.ref C) "value" = some none ∧ H a = some (exo a C none) ∧
  ∀ dx, H dx = none → dx ≠ a → Q .non (upd (upd H dx (exd dx [("value", v)])) a (exo a C (some dx)))
section
variable {P : Program} {w : World} {K : PySem.W.Frag} {mg : Str → Option Value} {base : Heap}
/-- such a def by its body -/
theorem FunD.ok {x qual : Str} {st : Stmt} {f : Addr} {fd : FuncData} {N ps : List Str} {k : Nat} {sp : Sp} (F : FunD K x qual st f fd) (S : FnScope N ps (defScope st)) (len : ∀ vs H Q E, sp vs H Q E → vs.length = ps.length)
    (body : ∀ (cdv : Value) (A : Around) (outer : List Env) (s : Shared) (H : Hp) (vs : List V) (Q : VK) (E : XK), Room k (A.deeper (envOfC qual (defScope st) s.heap.objs.size f cdv)) → sp vs H Q E →
      ∃ t, PSs (cxOf CX0 P w K mg base N qual (defScope st) f cdv A outer s H E).nox (defBody st) t ∧ t { nx := fun _ H' => Q .non H', rt := Q } (start N vs) H) : FnOk P w K mg base CX0 (k + 1) f fd ps sp := by
  obtain ⟨oc, od, dV, kV, doc, pm, an, cdv, ct, osl, rfl, lk, hcd⟩ := F.ex
  refine fn_of lk hcd S len fun A outer s H vs Q E hr h => ?_
  obtain ⟨t, h1, h2⟩ := body cdv A outer s H vs Q E hr h
  exact ⟨t, h1.nox, h2⟩
end
/-- what is raised: the class, its value -/
def Flies (C : Addr) (v : V) (E : XK) (H : Hp) : Prop := ∀ (d : Addr) (H' : Hp), (∀ b u, H b = some u → H' b = some u) → H d = none → H' d = some (.xd [("value", v)]) → E (.ref C) (some d) H'
theorem mkO_of {K : PySem.W.Frag} {C : Addr} {v : V} {E : XK} {H1 : Hp} (T : OexC K C) (hno : PySem.W.findIn K (.ref C) "value" = some none) (h : Flies C v E H1) : ([v] : List V).length ≤ 1000 ∧ ∀ a, H1 a = none →
    spInit K (.ref a :: ([v] ++ [])) (upd H1 a (exo a C none)) (fun u H2 => u = .non ∧ ∃ (d : Addr) (fs : List (Str × V)), H2 a = some (exo a C (some d)) ∧ H2 d = some (exd d fs) ∧ H1 d = none ∧ E (.ref C) (some d) (upd (del H2 a) d (.xd fs))) (fun _ _ _ => False) := by
  refine ⟨by show 1 ≤ 1000; decide, fun a ha => ⟨a, C, v, rfl, T, hno, upd_same, fun dx hdx ne => ?_⟩⟩
  rw [upd_ne ne] at hdx
  refine ⟨rfl, dx, [("value", v)], upd_same, (upd_ne ne).trans upd_same, hdx, h dx _ (fun b u e => ?_) hdx upd_same⟩
  have n1 := ne_of_none e hdx
  have n2 := ne_of_none e ha
  rw [upd_ne n1, del_ne n2, upd_ne n2, upd_ne n1, upd_ne n2]
  exact e
end G
set_option Elab.async false
set_option maxRecDepth 100000
set_option maxHeartbeats 8000000
/-! a caught exception that stays known behind the except suite -/
namespace G
open PySem PySem.Spec PyProof.Rows L2
/-- at a: an exception of the class cls, its dict d -/
def exk (cls : Value) (d : Option Addr) (a : Addr) : HO := .ext fun h => ∃ (oe : Obj) (vs : Array Value), h.get? a = some oe ∧ oe.cls = cls ∧ oe.dict = d ∧ oe.data = .fields vs
theorem exk_at {P : Program} {w : World} {H : Hp} {h : Heap} {a : Addr} {cls : Value} {d : Option Addr} (hok : HOk P w H h) (e : H a = some (exk cls d a)) : ∃ (oe : Obj) (vs : Array Value), h.get? a = some oe ∧ oe.cls = cls ∧ oe.dict = d ∧ oe.data = .fields vs := by
  have x : ObjOk P w H h a (.ext fun h => ∃ (oe : Obj) (vs : Array Value), h.get? a = some oe ∧ oe.cls = cls ∧ oe.dict = d ∧ oe.data = .fields vs) := hok a _ e
  exact x.1
section
variable {X : Cx} {pins : List (Addr × Obj)} {σ : L2.St} {H : Hp} {s : Shared}
/-- what nobody has told of is told of now -/
theorem adopt {a : Addr} {oe : Obj} {vs : Array Value} {cls : Value} {d : Option Addr} (I : Inv X pins σ H s) (ha : s.heap.get? a = some oe) (hz : Zc cls d oe) (hd : oe.data = .fields vs) (na : H a = none) (nL : a ≠ X.env.locals) (n0 : X.s_0.heap.get? a = none)
    (np : ∀ p ∈ X.pn ++ pins, p.1 ≠ a) : Inv X pins σ (upd H a (exk cls d a)) s := by
  have keep : ∀ {b : Addr} {u : HO}, H b = some u → upd H a (exk cls d a) b = some u := fun {b u} e => (upd_ne (ne_of_none e na)).trans e
  refine ⟨I.ok, I.os, I.bare, ⟨I.base.keep, I.base.slot, fun b o e n x => ?_, I.base.there, fun b xs e => keep (I.base.tups b xs e), fun b o u e => keep (I.base.frzs b o u e), fun b ps e => (I.base.tbls b ps e).elim fun m q => ⟨m, keep q⟩⟩, I.loc, I.cell, (upd_ne nL.symm).trans I.free, fun x c e => ?_, fun p hp => ?_, fun b u e => ?_, I.len⟩
  · have nb : b ≠ a := fun z => by
      rw [z, n0] at e
      cases e
    exact (upd_ne nb).trans (I.base.free b o e n x)
  · obtain ⟨v, o, ho, hv⟩ := I.cell x c e
    have nc : c ≠ a := fun z => by
      rw [z, ha] at ho
      cases ho
      rw [hd] at hv
      cases hv
    exact (upd_ne nc).trans (I.freeC x c e)
  · obtain ⟨p1, p2, p3⟩ := I.pin p hp
    exact ⟨p1, (upd_ne (np p hp)).trans p2, p3⟩
  · by_cases hb : b = a
    · subst hb
      rw [upd_same] at e
      cases e
      exact ⟨⟨oe, vs, ha, hz.1, hz.2, hd⟩, ⟨oe, ha⟩, fun h1 h2 ⟨o1, v1, q1, q2⟩ k => ⟨o1, v1, k _ q1, q2⟩⟩
    · rw [upd_ne hb] at e
      exact (I.hok b u e).stay (fun _ _ _ q => q) (fun _ q => keep q) fun _ _ q => keep q
end
/-- what the clause wishes of an exception of the body: slot i is the clause's name; behind the suite the exception is known -/
def wKeep (K : PySem.W.Frag) (c : Value) (i : Nat) (ts : Addr → Value → Option Addr → TS) (Wout : WX) (D : Ends) : WX := fun cls d σ H =>
  ∃ b, PySem.W.exmOne K cls c = some b ∧ (b = true → ∀ a, H a = none → ts a cls d { nx := fun σ' H' => D.nx (σ'.set i none) (upd H' a (exk cls d a)), rt := fun _ _ => False } (σ.set i (some (.ref a))) H) ∧ (b = false → Wout cls d σ H)
section
variable {X : Cx} {x n : Str} {c : Value} {i : Nat} {body suite : List Stmt} {b0 : Stmt} {np pos pos' : Pos} {tb : WX → TS} {ts : Addr → Value → Option Addr → TS} {Wout : WX}
theorem ps_try_keep (hst : X.stack = X.env :: X.outer) (hfr0 : X.env.frame = some X.env.locals) (hex : X.ex = []) (hN : X.N.Nodup) (hi : X.N[i]? = some n) (hln : X.env.kindOf n = some .local) (hc : Names X x c) (tk : Takes X Wout)
    (hb : ∀ (W : WX) (pn : List (Addr × Obj)) (xe : Value → Shared → Prop), Takes (X.tr pn xe) W → PassesOwn (model X.prog X.w) X.A X.env xe → PSs (X.tr pn xe) body (tb W))
    (hsu : ∀ (a : Addr) (oe : Obj) (cls : Value) (d : Option Addr) (pn : List (Addr × Obj)), Zc cls d oe → (∃ vs, oe.data = .fields vs) → PSs (X.suite a ((a, oe) :: pn)) (b0 :: suite) (ts a cls d)) :
    PS X (.Try body [.ExceptHandler (some (.Name x np)) (some n) (b0 :: suite) pos'] [] [] pos) (fun D σ H => tb (wKeep X.K c i ts Wout D) D σ H) := by
  refine ⟨fun pins s σ H D I h => wpAny_Try_except ?_⟩
  have ok := I.ok
  have fr := ok.frames.trans (congrArg some hst)
  let after : Value → Shared → Prop := fun e s1 => wpAny (model X.prog X.w) X.A (noteFrame e X.env) (fun _ s2 => wpAny (model X.prog X.w) X.A (setFlight e none)
    (fun _ s3 => wpAny (model X.prog X.w) X.A (handleBy e X.env [.ExceptHandler (some (.Name x np)) (some n) (b0 :: suite) pos']) (SP X pins D) X.xe s3) X.xe s2) X.xe s1
  have caught : Takes (X.tr (X.pn ++ pins) after) (wKeep X.K c i ts Wout D) := fun u s' xx => by
    obtain ⟨a, B, sI, pins', σ', H', cls, d, rfl, J', nb, up, sky, na, os, ag, b, hb1, hyes, hno⟩ := xx
    have J : Inv X pins σ' H' sI := J'.ofTry ok
    have sky : Sky B X.stack a (Zc cls d) X.env.locals s'.heap := sky
    rw [hst] at sky
    have nB : B.get? a = none := by
      rcases sky with z | z | z
      · exact z.2.1
      · exact z.2.1
      · exact z.2.1
    show wpAny (model X.prog X.w) X.A (noteFrame (.ref a) X.env) (fun _ _ => _) _ _
    refine Sky.land Zc.steady fr hfr0 sky fun h3 fl3 up3 => ?_
    have J3 : Inv X pins σ' H' { s' with heap := h3 } := J.landed nb fl3.1 (up.trans up3) os ag
    obtain ⟨oe3, vs3, he3, hz3, hd3⟩ := fl3.there
    have notFr : a ∉ frs (X.env :: X.outer) := fun hm => by
      obtain ⟨_, o', e', hnf⟩ := fl3.2.2.1.mem hm
      have := he3.symm.trans e'
      cases this
      exact hnf _ hd3
    have nL : a ≠ X.env.locals := fun z => notFr (List.mem_filterMap.mpr ⟨X.env, List.mem_cons_self, by rw [hfr0, z]⟩)
    have nF : a ∉ X.fs := fun hm => (List.mem_filterMap.mp hm).elim fun e q => notFr (List.mem_filterMap.mpr ⟨e, List.mem_cons_of_mem _ q.1, q.2⟩)
    have inB : ∀ p ∈ X.pn ++ pins, p.1 ≠ a := fun p hp z => by
      obtain ⟨p1, p2, p3, p4, p5⟩ := J.pin p hp
      have hnf : p.1 ∉ frs X.stack := fun hm => by
        rw [hst] at hm
        obtain ⟨e, he, q⟩ := List.mem_filterMap.mp hm
        rcases List.mem_cons.mp he with y | y
        · rw [y, hfr0] at q
          exact p3 (Option.some.inj q).symm
        · exact p4 (List.mem_filterMap.mpr ⟨e, y, q⟩)
      have := nb _ _ p1 hnf
      rw [z, nB] at this
      cases this
    have n0 : X.s_0.heap.get? a = none := by
      cases e : X.s_0.heap.get? a with
      | none => rfl
      | some o =>
        obtain ⟨o', e'⟩ := J.base.there a o e (by rw [hex]; simp)
        have := nb _ _ e' (by rw [hst]; exact notFr)
        rw [nB] at this
        cases this
    refine wpAny_handleBy_cons (codeAny_handlers_test ?_) (by intro q; cases q)
    have S3 := J3.suite he3 hd3 na nL nF
    have LT : PySem.W.Looks (model X.prog X.w) h3 (typeOf (.ref a)) cls := fun A Q E s k q => wpAny_typeOf_ref (k _ _ he3) (hz3.1 ▸ q)
    have LM := PySem.W.exm_one (M := model X.prog X.w) J3.kIn LT hb1
    have test : ∀ {Q : Value → Shared → Prop} {E : Value → Shared → Prop}, Q c { s' with heap := h3 } → wpAny (model X.prog X.w) (X.A.mark (some (.ref a))) (eval (.Name x np) X.env) Q E { s' with heap := h3 } := fun q => by
      obtain ⟨hg, hdbg, z⟩ := hc
      rcases z with hm | ⟨hm, hv, hnn⟩
      · exact ld_glob (X := X.suite a ((a, oe3) :: (X.pn ++ pins))) S3 hg hm q hdbg
      · exact ld_blt (X := X.suite a ((a, oe3) :: (X.pn ++ pins))) S3 hg hm hv q hnn hdbg
    refine test (LM.here ?_)
    cases b with
    | true =>
      refine codeAny_handlers_suite_as (HandSPX.lands_againZ fl3 fun h4 fl4 up4 => ?_)
      obtain ⟨oe4, vs4, he4, hz4, hd4⟩ := fl4.there
      have S4 := (J.landed (s' := { s' with heap := h4 }) nb fl4.1 ((up.trans up3).trans up4) os ag).suite he4 hd4 na nL nF
      refine store_ok (X := X.suite a ((a, oe4) :: (X.pn ++ pins))) (v := .ref a) S4 hN hi (.inl hln) rfl (fun s5 S5 => ?_) (.inr hln)
      refine wpAny_mono ((hsu a oe4 cls d (X.pn ++ pins) hz4 ⟨_, hd4⟩).run [] s5 _ H' _ S5 (hyes rfl a na)) (fun f s6 q6 => ?_) (fun _ _ z => False.elim z)
      cases f with
      | next =>
        obtain ⟨σ6, H6, S6, q7⟩ := q6
        refine gone_ok (X := X.suite a ((a, oe4) :: (X.pn ++ pins))) S6 hN hi hln fun s7 S7 => ?_
        obtain ⟨e7, n7, _⟩ := S7.pin (a, oe4) (List.mem_append_left _ List.mem_cons_self)
        exact ⟨_, _, adopt (S7.unsuite ok) e7 hz4 hd4 n7 nL n0 inB, q7⟩
      | brk => exact q6.elim fun _ z => z.elim fun _ y => y.2.elim
      | cont => exact q6.elim fun _ z => z.elim fun _ y => y.2.elim
      | ret u => exact q6.elim fun _ z => z.elim fun _ y => y.elim fun _ x => x.2.2.elim
    | false =>
      show wpAny _ X.A (handleBy (.ref a) X.env []) _ _ _
      refine wpAny_handleBy_nil ?_
      obtain ⟨k1, k2, k3, oe, vs, T, oT, ts', he, hz, hd, h1, hr⟩ := id fl3
      unfold PySem.passOn
      refine wpAny_bind (wpAny_field he hd h1 ?_)
      rw [if_neg (show ¬ ((Value.ref T == Value.none) = true) by simp)]
      have fin : wpAny (model X.prog X.w) X.A (setFlight (.ref a) X.env.frame) (fun _ s4 => wpAny (model X.prog X.w) X.A (throw (.ref a) : Sem Flow) (SP X pins D) X.xe s4) X.xe { s' with heap := h3 } := by
        rw [hfr0]
        exact HandSPX.setFlight_upZ fl3 fun h4 hh4 up4 => wpAny_throw (tk _ _ ⟨a, B, sI, pins, σ', H', cls, d, rfl, J, nb, (up.trans up3).trans up4, .inr (.inr (hst ▸ hh4)), na, os, ag, hno rfl⟩)
      first
        | exact wpAny_bind (wpAny_pure (wpAny_bind fin))
        | exact wpAny_bind fin
  refine wpAny_mono ((hb _ (X.pn ++ pins) after caught PassesOwn.looking).run [] s σ H D (I.toTry _) h) (fun f s1 q => ?_) (fun e s1 he => he)
  cases f with
  | next =>
    obtain ⟨σ', H', J', q⟩ := q
    exact wpAny_execs_nil ⟨σ', H', J'.ofTry ok, q⟩
  | brk => exact q.elim fun σ' z => z.elim fun H' y => ⟨σ', H', y.1.ofTry ok, y.2⟩
  | cont => exact q.elim fun σ' z => z.elim fun H' y => ⟨σ', H', y.1.ofTry ok, y.2⟩
  | ret u =>
    obtain ⟨v, σ', H', J', r, q⟩ := q
    exact ⟨v, σ', H', J'.ofTry ok, r, q⟩
end
end G
set_option Elab.async false
set_option maxRecDepth 100000
set_option maxHeartbeats 4000000
/-! isinstance and fields of a kept exception -/
namespace G
open PySem PySem.Spec PyProof.Rows L2
/-- what the written part says of the exception class at C -/
structure KxC (K : PySem.W.Frag) (C : Addr) : Prop where
  cl : PySem.W.isClsIn K C = true
  ga : PySem.W.findIn K (.ref C) "__getattribute__" = some (some (.builtin "BaseException.__getattribute__"))
  gg : PySem.W.findIn K (.ref C) "__getattr__" = some none
  sb : PySem.W.subIn K (.ref C) (.type "BaseException") = some true
  hd : PySem.W.hasDictIn K C = true
  ha : PySem.W.findIn K (.ref C) "__class__" = some (some (.builtin "object.__class__"))
  hn : PySem.W.specialIn K (.builtin "object.__class__") "__get__" = some (some (.builtin "getset_descriptor.__get__"))
  ht : PySem.W.takesIn K (.builtin "object.__class__") = some true
  hm : PySem.W.mroIn K C (.type "object") = some true
theorem kit_self {K : PySem.W.Frag} {C : Addr} : PySem.W.kitOne K (.ref C) (.ref C) = some true := if_pos (by simp)
theorem kit_ref {K : PySem.W.Frag} {t : Value} {D : Addr} {b : Bool} (hn : (t == Value.ref D) = false) (hc : PySem.W.isClsIn K D = true) (ht : PySem.W.typeIn K (.ref D) = some (.type "type")) (hs : PySem.W.subIn K t (.ref D) = some b) : PySem.W.kitOne K t (.ref D) = some b := by
  unfold PySem.W.kitOne
  rw [hn, if_neg (by decide)]
  show (if ((PySem.W.clsIn K D).isSome && PySem.W.typeIn K (.ref D) == some (.type "type")) = true then PySem.W.subIn K t (.ref D) else none) = _
  rw [if_pos (by rw [show (PySem.W.clsIn K D).isSome = true from hc, ht]; rfl)]
  exact hs
/-- a kept exception whose dict is known -/
def Kept (K : PySem.W.Frag) (H : Hp) (a C : Addr) (fs : List (Str × V)) : Prop := ∃ dd : Addr, H a = some (exk (.ref C) (some dd) a) ∧ H dd = some (.xd fs) ∧ KxC K C
theorem kept_inst {X : Cx} {pins : List (Addr × Obj)} {σ : L2.St} {H : Hp} {s : Shared} {a C : Addr} {fs : List (Str × V)} (I : Inv X pins σ H s) (k : Kept X.K H a C fs) :
    ∃ (oe od : Obj) (mA : Str → Option Value), PySem.W.InstAt s.heap a oe C (some od) ∧ (∀ n : Str, PySem.W.lookIn n od = some (mA n)) ∧ ∀ f, RelO (fs.lookup f) (mA f) := by
  obtain ⟨dd, ha, hd, _⟩ := k
  obtain ⟨oe, vs, e1, e2, e3, e4⟩ := exk_at I.hok ha
  have hx : ObjOk X.prog X.w H s.heap dd (.xd fs) := I.hok dd _ hd
  obtain ⟨mA, hns, hr⟩ := hx
  obtain ⟨od, ho, hl⟩ := lookIn_ns hns
  exact ⟨oe, od, mA, ⟨e1, e2, by unfold PySem.W.notCls; rw [e4] <;> rfl, by rw [e3]; exact ho⟩, hl, hr⟩
/-- isinstance(x, c): x a kept exception, or any other value that is known -/
def rIsx (K : PySem.W.Frag) : List V → Hp → VK → Prop := fun xs H Q => ∃ (x c : V) (u : Value) (b : Bool), xs = [x, c] ∧ ClsV c u ∧
  ((∃ (a C : Addr) (fs : List (Str × V)), x = .ref a ∧ Kept K H a C fs ∧ PySem.W.kitOne K (.ref C) u = some b) ∨ ∃ t, TyX K H x t ∧ PySem.W.kitOne K t u = some b) ∧ Q (.bl b) H
theorem call_isx {X : Cx} : CallR X (.builtin "isinstance") (rIsx X.K) := by
  intro pins s σ H xs us Q I r h
  obtain ⟨x, c, u, b, rfl, k, hx, q⟩ := h
  rcases hx with ⟨a, C, fs, rfl, kx, e⟩ | ⟨t, ty, e⟩
  · obtain ⟨u1, u2, rfl, r1, r2⟩ := vals2 r
    cases (show u1 = Value.ref a from r1)
    have e2 := k.eq r2
    subst e2
    obtain ⟨oe, od, mA, J, _⟩ := kept_inst I kx
    obtain ⟨dd, _, _, c⟩ := kx
    exact PySem.W.kia_one (PySem.W.kitx_exc c.cl c.ga c.gg c.sb c.ha c.hn c.ht c.hm) I.kIn J e (fun z => nomatch z) fun tk => ⟨.bl b, H, I.tok tk, rfl, q⟩
  · exact call_isi pins s σ H _ us Q I r ⟨x, c, t, u, b, rfl, k, ty, e, q⟩
/-- x.n, x a kept exception -/
def tXk (K : PySem.W.Frag) (n : Str) (te : TE) : TE := fun σ H Q => te σ H fun x H1 => ∃ (a C : Addr) (fs : List (Str × V)) (v : V), x = .ref a ∧ Kept K H1 a C fs ∧ PySem.W.findIn K (.ref C) n = some none ∧ fs.lookup n = some v ∧ Q v H1
theorem pe_xk {X : Cx} {e : Expr} {te : TE} {pos : Pos} {n : Str} (he : PE X e te) (hb : attributeBase e n X.env (eval e X.env) = eval e X.env := by rfl) : PE X (.Attribute e n pos) (tXk X.K n te) := by
  refine ⟨fun pins s σ H Q I h => attr_of hb (thn (he.run pins s σ H _ I h) fun u s1 ⟨x, H1, I1, rx, a, C, fs, v, ex, k, no, l, q⟩ => ?_)⟩
  subst ex
  obtain rfl : u = Value.ref a := rx
  obtain ⟨oe, od, mA, J, hl, hr⟩ := kept_inst I1 k
  obtain ⟨dd, _, _, c⟩ := k
  obtain ⟨w, hw, rw'⟩ := RelO.some_of (v := v) (o := mA n) (by rw [← l]; exact hr n)
  exact HandSPX.exc_get I1.kIn J c.ga c.gg c.sb (PySem.W.findObj_own c.hd no rfl (by rw [hl, hw])) (handed_of rw') ⟨v, H1, I1.tok _, rw', q⟩
end G
set_option Elab.async false
set_option maxRecDepth 100000
set_option maxHeartbeats 8000000
/-! laws whose defs make lambdas: the tables of their code objects are told from the start -/
namespace G
open PySem PySem.Spec PyProof.Rows L2
open LamX (TabB TabS Tabs CodeO)
/-- an exception in the air: the slots are as many as the names -/
theorem takes_len {X : Cx} {W : WX} (t : Takes X W) : Takes X (fun cls d σ H => σ.length = X.N.length → W cls d σ H) := fun u s' ⟨a, B, sI, pins, σ, H, cls, d, e, I, nb, up, sky, na, os, ag, w⟩ =>
  t u s' ⟨a, B, sI, pins, σ, H, cls, d, e, I, nb, up, sky, na, os, ag, w I.len⟩
/-- what is tracked ahead of the law: the script, the tables -/
def scrT (K : PySem.W.Frag) (a : Addr) (vs : List Value) (ns : List Int) (cs : List (Addr × Addr)) : Hp := fun b => if b ∈ cs.map (·.2) then some (.tbl #[]) else scr K a vs ns b
section
variable {P : Program} {w : World} {K : PySem.W.Frag} {mg mb : Str → Option Value} {k : Nat} {fa a : Addr} {fd : FuncData} {x : Str} {sp : Sp} {s₁ : Shared} {vs : List Value} {ns : List Int} {cs : List (Addr × Addr)}
theorem law_runsT (KX : K.In s₁.heap) (hns : s₁.heap.Ns mainGlobals mg) (hb : s₁.heap.Ns builtinsNs mb) (hbb : ∀ x : Str, x ≠ "__name__" → mb x = bootBuiltins x) (hlim : s₁.heap.NoLimit) (hg : s₁.gens = #[])
    (hT : ∀ p ∈ cs, s₁.heap.get? p.2 = some { cls := .none, data := .fields #[] }) (nT : ∀ p ∈ cs, K.lookup p.2 = none) (C : ∀ p ∈ cs, PySem.W.CodeHd s₁.heap p.1 p.2)
    (hbm : ∃ (bm : Addr) (ob : Obj), mg "__builtins__" = some (.ref bm) ∧ bm ≠ builtinsNs ∧ s₁.heap.get? bm = some ob ∧ ob.cls = .type "module" ∧ ob.dict = some builtinsNs ∧ ob.data = .plain)
    (ha : s₁.heap.get? a = some { cls := .type "list", data := .seq vs.toArray }) (hi : IntsAre vs ns) (hl : ns.length ≤ sizeLine) (hr : Room k callerA)
    (F : ∀ base : Heap, K.In base → base.Ns mainGlobals mg → (∀ p ∈ cs, TabB base mg p.1 p.2) → FnG P w K mg base k fa fd [x] sp) (hbind : ∀ (s : Shared) (u : Value), BindsTo s fd ⟨[u], []⟩ [(x, u)])
    (hsp : ∀ H : Hp, (∀ p ∈ cs, H p.2 = some (.tbl #[])) → SqL K H a (ns.map V.int) → sp [.ref a] H (fun v _ => v = .bl true) fun _ _ _ => False) :
    codeAny (model P w) callerA (.call (.ref fa) ⟨[.ref a], []⟩) (fun r s' => r = .ok (.ret (.bool true)) ∧ OldK s₁.heap s'.heap ∧ s'.os = s₁.os ∧ AllBare s'.gens) s₁ := by
  have rv := vals_ints hi
  have isT : ∀ b : Addr, b ∈ cs.map (·.2) → s₁.heap.get? b = some { cls := .none, data := .fields #[] } := fun b hb => (List.mem_map.mp hb).elim fun p q => q.2 ▸ hT p q.1
  have aT : a ∉ cs.map (·.2) := fun z => by
    have q := ha.symm.trans (isT a z)
    cases q
  have tell : ∀ b, scrT K a vs ns cs b = none ∨ (b = a ∧ K.lookup a = none ∧ scrT K a vs ns cs b = some (.frz { cls := .type "list", data := .seq vs.toArray } (.lst (ns.map V.int)))) ∨ (b ∈ cs.map (·.2) ∧ scrT K a vs ns cs b = some (.tbl #[])) := fun b => by
    by_cases hb : b ∈ cs.map (·.2)
    · exact .inr (.inr ⟨hb, if_pos hb⟩)
    · rcases scr_or K a vs ns b with q | ⟨e1, e2, e3⟩
      · exact .inl ((if_neg hb).trans q)
      · exact .inr (.inl ⟨e1, e2, (if_neg hb).trans e3⟩)
  have sees : SqL K (scrT K a vs ns cs) a (ns.map V.int) := by
    cases hk : K.lookup a with
    | none => exact .inl (.inr ⟨_, (if_neg aT).trans (if_pos ⟨rfl, hk⟩)⟩)
    | some o =>
      have e := ha.symm.trans (KX a o hk)
      cases e
      exact .inr ⟨_, vs.toArray, _, hk, rfl, rfl, rfl, by rw [List.size_toArray, hi.length]; exact hl, by simpa using rv⟩
  have okH : HOk P w (scrT K a vs ns cs) s₁.heap := fun b u z => by
    rcases tell b with q | ⟨rfl, _, q⟩ | ⟨hb, q⟩
    · cases q.symm.trans z
    · cases q.symm.trans z
      exact ⟨ha, by rw [List.length_map]; exact hl, vs, _, rv, ha⟩
    · cases q.symm.trans z
      exact isT b hb
  -- what is neither the script nor a table is in the base
  have base_of : ∀ {b : Addr} {o : Obj}, s₁.heap.get? b = some o → (∀ us n, o.data ≠ .seq us n) → o.data ≠ .fields #[] → (hidT s₁.heap (scrT K a vs ns cs)).get? b = some o := fun {b o} e h1 h2 => hidT_get e (by
    rcases tell b with q | ⟨rfl, _, _⟩ | ⟨hb, _⟩
    · exact q
    · cases ha.symm.trans e
      exact (h1 _ _ rfl).elim
    · cases (isT b hb).symm.trans e
      exact (h2 rfl).elim)
  have low : ∀ {b : Addr} {m : Str → Option Value}, s₁.heap.Ns b m → (hidT s₁.heap (scrT K a vs ns cs)).Ns b m := by
    rintro b m ⟨o, es, ep, e, d, r⟩
    exact ⟨o, es, ep, base_of e (fun us n z => by rw [d] at z; cases z) (fun z => by rw [d] at z; cases z), d, r⟩
  have lowK : K.In (hidT s₁.heap (scrT K a vs ns cs)) := fun b o e => hidT_get (KX b o e) (by
    rcases tell b with q | ⟨rfl, z, _⟩ | ⟨hb, _⟩
    · exact q
    · cases z.symm.trans e
    · obtain ⟨p, hp, rfl⟩ := List.mem_map.mp hb
      cases (nT p hp).symm.trans e)
  have TB : ∀ p ∈ cs, TabB (hidT s₁.heap (scrT K a vs ns cs)) mg p.1 p.2 := fun p hp => by
    refine ⟨?_, ?_, fun z => ?_⟩
    · obtain ⟨o, us, file, tf, flags, tg, inF, text, tt, e1, r1, r2, r3, r4⟩ := C p hp
      exact ⟨o, us, file, tf, flags, tg, inF, text, tt, base_of e1 (fun us n z => by rw [r2] at z; cases z) (fun z => by rw [r2] at z; cases z; simp at r3), r1, r2, r3, r4⟩
    · obtain ⟨bm, ob, b1, b2, b3, b4, b5, b6⟩ := hbm
      refine ⟨bm, ob, b1, b2, fun q => ?_, fun q => ?_, base_of b3 (fun us n z => by rw [b6] at z; cases z) (fun z => by rw [b6] at z; cases z), b4, b5, b6⟩
      · obtain ⟨o, es, ep, e, hd, _⟩ := hns
        rw [q, e] at b3
        cases b3
        rw [hd] at b6
        cases b6
      · rw [q, hT p hp] at b3
        cases b3
        cases b6
    · obtain ⟨o, es, ep, e, hd, _⟩ := hns
      rw [z, hT p hp] at e
      cases e
      cases hd
  obtain ⟨mc, c1, c2⟩ := hlim
  have e0 : Env0 P w K mg (hidT s₁.heap (scrT K a vs ns cs)) callerA [] s₁ (scrT K a vs ns cs) :=
    { frames := rfl, mod := ⟨lowK, low hns, ⟨mb, low hb, hbb⟩, ⟨mc, low c1, c2⟩⟩, bs := fun b o e => of_hidT e, bsz := Nat.le_of_eq (hidT_size _ _), funs := trivial,
      frf := fun b z => (List.not_mem_nil (show b ∈ ([] : List Addr) from z)).elim, hok := okH, bare := .of_eq hg }
  have memT : ∀ p ∈ cs, scrT K a vs ns cs p.2 = some (.tbl #[]) := fun p hp => if_pos (List.mem_map.mpr ⟨p, hp, rfl⟩)
  refine codeAny_mono ((F _ lowK (low hns) TB).run callerA [] s₁ _ ⟨[.ref a], []⟩ [.ref a] [.ref a] _ _ rfl hr e0 (hbind s₁ (.ref a)) (.cons rfl .nil) (hsp _ memT sees)) fun r s' h => ?_
  match r, h with
  | .ok (.ret u), ⟨v, H', os, bare, un, hok', r', q⟩ =>
    subst q
    cases (show u = Value.bool true from r')
    have grown : ∀ p ∈ cs, ∃ more : Array Value, s'.heap.get? p.2 = some { cls := .none, data := .fields more } := fun p hp => (un.tbls p.2 #[] (memT p hp)).elim fun more z => ⟨_, hok' p.2 _ z⟩
    have kept : ∀ b o, b ∉ cs.map (·.2) → s₁.heap.get? b = some o → s'.heap.get? b = some o := fun b o nb e => by
      rcases tell b with z | ⟨rfl, _, z⟩ | ⟨hb, _⟩
      · exact un.keep b o e z (fun z => List.not_mem_nil (show b ∈ ([] : List Addr) from z)) List.not_mem_nil
      · cases ha.symm.trans e
        exact (hok' b _ (un.frzs b _ _ z)).1
      · exact (nb hb).elim
    refine ⟨rfl, ⟨fun b o e => ?_, fun b o e => ?_⟩, os, bare⟩
    · by_cases hb : b ∈ cs.map (·.2)
      · obtain ⟨p, hp, rfl⟩ := List.mem_map.mp hb
        obtain ⟨more, hm⟩ := grown p hp
        cases (hT p hp).symm.trans e
        exact .inr (.inl ⟨((C p hp).tab (hT p hp)).isCodeTable, rfl, #[], more, rfl, by rw [Array.empty_append]; exact hm⟩)
      · exact .inl (kept b o hb e)
    · by_cases hb : b ∈ cs.map (·.2)
      · obtain ⟨p, hp, rfl⟩ := List.mem_map.mp hb
        exact (grown p hp).elim fun more hm => ⟨_, hm⟩
      · exact ⟨o, kept b o hb e⟩
end
/-- the table of the def x is empty ahead of the law -/
def Fresh (K : PySem.W.Frag) (x : Str) (h : Heap) : Prop := ∀ c P : Addr, PySem.W.tabIn K x = some (c, P) → PySem.W.CodeHd h c P ∧ h.get? P = some { cls := .none, data := .fields #[] }
theorem walk_T {l : PySem.W.OpenLaw} {n k : Nat} {q : Program} {loose : List Str} {XP : (Str → Option Value) → Heap → Prop} {YP : World → Heap → Prop} {d : DefRec} {K : Params → PySem.W.Frag} {x : Str}
    (hn : l.most = some n) (hn2 : n ≤ sizeLine) (hdf : d.params.defaults = []) (hr : Room k callerA) (hY : ∀ (w : World) (h : Heap), YP w h → (K w.params).In h)
    (F : ∀ (w : World) (mg : Str → Option Value) (fa : Addr) (h : Heap), (K w.params).In h → h.Ns mainGlobals mg → mg d.name = some (.ref fa) → (∀ y, ((recsOf q).find? fun e => e.name == y).isSome = true → Fresh (K w.params) y h) →
      ∃ (fd : FuncData) (cs : List (Addr × Addr)) (sp : Sp), (∀ p ∈ cs, h.get? p.2 = some { cls := .none, data := .fields #[] }) ∧ (∀ p ∈ cs, (K w.params).lookup p.2 = none) ∧ (∀ p ∈ cs, PySem.W.CodeHd h p.1 p.2) ∧ (∀ (s : Shared) (u : Value), BindsTo s fd ⟨[u], []⟩ [(x, u)]) ∧
        (∀ (H : Hp) (a : Addr) (ns : List Int), ns.length ≤ n → (∀ p ∈ cs, H p.2 = some (.tbl #[])) → SqL (K w.params) H a (ns.map V.int) → sp [.ref a] H (fun v _ => v = .bl true) fun _ _ _ => False) ∧
        ∀ base : Heap, (K w.params).In base → base.Ns mainGlobals mg → (∀ p ∈ cs, TabB base mg p.1 p.2) → FnG l.prog w (K w.params) mg base k fa fd [x] sp) :
    PySem.W.WalkO q loose XP YP l.row.toRowW d [] (fun f vs => PySem.call f vs) := by
  refine Att.attach_call hn hdf fun w s₀ s₁ mg mb fa o pm cd doc a vs ns G Y ho hd hcd hmg hobj hints hlen hg => ?_
  obtain ⟨fd, cs, sp, hT, nT, C, hb, hsp, hF⟩ := F w mg fa _ (hY w _ Y) G.T.g hmg fun y hy c P ht => (Option.isSome_iff_exists.mp hy).elim fun dd hr => PySem.W.tab_of G.T (hY w _ Y) hr ht
  exact law_runsT (hY w _ Y) G.T.g G.T.b G.T.builtins G.T.nolimit hg hT nT C G.T.bmain hobj hints (Nat.le_trans hlen hn2) hr hF hb fun H hH hS => hsp H a ns hlen hH hS
end G
set_option Elab.async false
set_option maxRecDepth 100000
set_option maxHeartbeats 4000000
/-! an own exception made of no argument -/
namespace L2
open PySem PySem.Spec PyProof.Rows
section
variable {X : Cx} {p pos : Pos}
theorem pmk_oex0 {CX : CXT} {x : Str} {C fI : Addr} {k : Nat} {fd : FuncData} {ps : List Str} {sp : Sp} {ds : List Value} {dvs : List V} (T : OexC X.K C) (iC : PySem.W.findIn X.K (.ref C) "__init__" = some (some (.ref fI))) (tI : PySem.W.typeIn X.K (.ref fI) = some (.type "function"))
    (F1 : FnOk X.prog X.w X.K X.mg X.base CX k fI fd ps sp) (hr : Room (k + 1) X.A) (hb : Binds X.K fd ps ds) (hd : Vals dvs ds) (hx : Passes CX X (fun _ _ _ => False)) (hg : Gl X x) (hm : X.mg x = some (.ref C))
    (hdb : (x == ("__debug__" : Str)) = false := by decide) :
    PMk X (.Call (.Name x p) [] [] pos) (tMkO C sp dvs tNil) := by
  intro pins s σ H Q I h
  obtain ⟨nm, q, N, bs, bm, sn, sub, ab, col, dd, k0, k1, k2, k3, k5, hC, hbm⟩ := T.cls
  refine wpAny_Call_Name_kw (ld_glob I hg hm ?_ hdb)
  refine PySem.W.callWith_K0 I.kIn T.kC ?_
  show wpAny _ _ (call (.ref C) []) _ _ _
  have q1 := h.2
  obtain ⟨hp, g, dr, tk, os⟩ := s
  have hsz : hp.objs.size ≤ hp.objs.size + 1 := Nat.le_succ _
  have hn : H (hp.objs.size + 1) = none := I.hok.fresh hsz
  have hq := q1 (hp.objs.size + 1) hn
  have kk : ∀ b o, hp.get? b = some o → ((hp.push (PySem.W.kdv_tup [])).push (PySem.HandSPX.excO C hp.objs.size)).get? b = some o := fun b o e => Heap.get?_push_of_some _ (Heap.get?_push_of_some _ e)
  have hget : ((hp.push (PySem.W.kdv_tup [])).push (PySem.HandSPX.excO C hp.objs.size)).get? (hp.objs.size + 1) = some (PySem.HandSPX.excO C hp.objs.size) := by heap_get
  have I2 : Inv X pins σ (upd H (hp.objs.size + 1) (exo (hp.objs.size + 1) C none)) ⟨(hp.push (PySem.W.kdv_tup [])).push (PySem.HandSPX.excO C hp.objs.size), g, dr, tk, os⟩ :=
    I.laid (t' := tk) (a := hp.objs.size + 1) (o := exo (hp.objs.size + 1) C none) (h' := (hp.push (PySem.W.kdv_tup [])).push (PySem.HandSPX.excO C hp.objs.size)) kk hsz (exo_ok hget)
  have r2 : Vals (V.ref (hp.objs.size + 1) :: ([] ++ dvs)) ([Value.ref (hp.objs.size + 1)] ++ ds) := by
    rw [show [Value.ref (hp.objs.size + 1)] ++ ds = Value.ref (hp.objs.size + 1) :: ds from rfl]
    exact .cons rfl hd
  have hl : ([Value.ref (hp.objs.size + 1)] ++ ds).length = ps.length := by
    have e := r2.length
    rw [F1.len _ _ _ _ hq] at e
    exact e.symm
  refine wpAny_call (PySem.HandSPX.call_own F.excBase_ValueError (fun Y => PySem.HandSPX.refsVE_contains Y bm hbm) (I.kIn _ _ hC) (PySem.W.looks_findIn I.kIn iC) (fun self => PySem.W.bind_fn I.kIn self tI) (Nat.zero_le _)
    (codeAny_mono (F1.run _ X.stack _ _ ⟨[Value.ref (hp.objs.size + 1)], []⟩ ([Value.ref (hp.objs.size + 1)] ++ ds) _ _ (fun _ _ _ => False) (hr.make C [] []) (I2.env0.make C [] []) (hb _ [Value.ref (hp.objs.size + 1)] I2.kIn hl) r2 hq) fun r s' hq' => ?_))
  cases r with
  | error er => exact hx pins σ _ _ er s' I2 hq'
  | ok fl =>
    cases fl with
    | ret u =>
      obtain ⟨v, H2, os2, bare2, un2, hok2, rv, ev, d, fs, ea, ed, hd1, q2⟩ := hq'
      subst ev
      obtain ⟨h2, g2, d2, t2, os'⟩ := s'
      exact ⟨rv, mk_end (raises_own T.exC T.tyC) I hsz kk un2 hok2 os2 bare2 ea ed hd1 q2⟩
    | next => exact False.elim hq'
    | brk => exact False.elim hq'
    | cont => exact False.elim hq'
end
end L2
namespace G
open PySem PySem.Spec PyProof.Rows L2
/-- what __init__(self) leaves: the field, None -/
def spInit0 : PySem.W.Frag → Sp := fun K vs H Q _ => ∃ (a C : Addr), vs = [.ref a] ∧ OexC K C ∧ PySem.W.findIn K (.ref C) "value" = some none ∧ H a = some (exo a C none) ∧
  ∀ dx, H dx = none → dx ≠ a → Q .non (upd (upd H dx (exd dx [("value", .non)])) a (exo a C (some dx)))
theorem mkO_of0 {K : PySem.W.Frag} {C : Addr} {E : XK} {H1 : Hp} (T : OexC K C) (hno : PySem.W.findIn K (.ref C) "value" = some none) (h : Flies C .non E H1) : ([] : List V).length ≤ 1000 ∧ ∀ a, H1 a = none →
    spInit0 K (.ref a :: (([] : List V) ++ [])) (upd H1 a (exo a C none)) (fun u H2 => u = .non ∧ ∃ (d : Addr) (fs : List (Str × V)), H2 a = some (exo a C (some d)) ∧ H2 d = some (exd d fs) ∧ H1 d = none ∧ E (.ref C) (some d) (upd (del H2 a) d (.xd fs))) (fun _ _ _ => False) := by
  refine ⟨Nat.zero_le _, fun a ha => ⟨a, C, rfl, T, hno, upd_same, fun dx hdx ne => ?_⟩⟩
  rw [upd_ne ne] at hdx
  refine ⟨rfl, dx, [("value", .non)], upd_same, (upd_ne ne).trans upd_same, hdx, h dx _ (fun b u e => ?_) hdx upd_same⟩
  have n1 := ne_of_none e hdx
  have n2 := ne_of_none e ha
  rw [upd_ne n1, del_ne n2, upd_ne n2, upd_ne n1, upd_ne n2]
  exact e
end G
set_option Elab.async false
set_option maxRecDepth 100000
set_option maxHeartbeats 4000000
/-! enumerate over a tuple -/
namespace G
open PySem PySem.Spec PyProof.Rows L2

/-- what draws from a tuple's iterator -/
theorem draws_T {prog : Program} {w : World} {A : Around} (hh : A.handled = none) (it t : Addr) (hne : t ≠ it) (its : Array Value) :
    Draws prog w A it [it, t] its.size (fun i v => its[i]? = some v) (fun i h => IsTupIter h it t i ∧ IsTup h t its) :=
  { live := fun _ _ st => st.1.elim fun o q => ⟨o, q.1⟩
    frame := fun _ _ _ st hk => ⟨st.1.elim fun o q => ⟨o, hk it (List.mem_cons_self ..) o q.1, q.2⟩, st.2.elim fun o q => ⟨o, hk t (List.mem_cons_of_mem _ (List.mem_cons_self ..)) o q.1, q.2⟩⟩
    item := fun i s Q E hi st hQ => RZ.nextOf_tuple_item st.1 st.2 (x := its[i]) (Array.getElem?_eq_getElem hi) fun h' hit' hs' =>
      hQ _ h' s.toks (Array.getElem?_eq_getElem hi) ⟨hit', st.2.elim fun o q => ⟨o, hs'.extBut t o hne q.1, q.2⟩⟩ hs'
    done := fun s Q E st hE => RZ.nextOf_tuple_end hh st.1 st.2 (Array.getElem?_eq_none (Nat.le_refl _)) hE }

/-- enumerate(t), t a tuple: made -/
theorem meets_enum1 {v : Value} {o : Obj} {H : Heap → Prop} (B : Begins v o H) :
    Meets (Builtin.«enumerate.__new__» ⟨[.type "enumerate", v], []⟩) (fun _ R s => H s.heap ∧
      R (.ok (.ret (.ref (s.heap.objs.size + 1)))) { s with heap := (s.heap.push o).push { cls := .type "enumerate", data := .fields #[.none, .bool false, .ref s.heap.objs.size, rawInt 0, .none, .none] } }) :=
  .of_wp fun prog w A R s h => by
    obtain ⟨hp, g, d, tk, os⟩ := s
    obtain ⟨h1, h⟩ := h
    have hsub := sub_enumerate
    have hz : (hp.push o).objs.size = hp.objs.size + 1 := Heap.size_push ..
    have q1 : ∀ {A' : Around} {E : Value → Shared → Prop} {Q : Value → Shared → Prop}, Q (.ref hp.objs.size) ⟨hp.push o, g, d, tk, os⟩ → wpAny (model prog w) A' (pyIter v) Q E ⟨hp, g, d, tk, os⟩ := B.iter prog w _ _ ⟨hp, g, d, tk, os⟩ _ h1
    wp_walk using q1
    refine wpAny_stack_any fun st => wpAny_pure ?_
    split
    · rename_i c _ _ _ _ _
      cases (c == Value.type "enumerate") <;> (wp_walk using q1; exact ⟨_, hz ▸ rfl, h⟩)
    · wp_walk using q1
      exact ⟨_, hz ▸ rfl, h⟩
theorem call_enum1 {prog : Program} {w : World} {A : Around} {E : Value → Shared → Prop} {s : Shared} {v : Value} {o : Obj} {H : Heap → Prop} {Q : Value → Shared → Prop} (B : Begins v o H) (h1 : H s.heap)
    (h : ∀ h', IsEnum h' (s.heap.objs.size + 1) s.heap.objs.size 0 .none → h'.get? s.heap.objs.size = some o → (∀ b u, s.heap.get? b = some u → h'.get? b = some u) → Q (.ref (s.heap.objs.size + 1)) { s with heap := h' }) :
    wpAny (model prog w) A (call (.type "enumerate") [v]) Q E s := by
  have hz : (s.heap.push o).objs.size = s.heap.objs.size + 1 := Heap.size_push ..
  have he : IsEnum ((s.heap.push o).push { cls := .type "enumerate", data := .fields #[.none, .bool false, .ref s.heap.objs.size, rawInt 0, .none, .none] }) (s.heap.objs.size + 1) s.heap.objs.size 0 .none :=
    hz ▸ Heap.get?_push_size (s.heap.push o) rfl
  exact callType_new F.called_enumerate (by decide) (F.typeCall_enumerate_1 _) (F.newCall_enumerate_1 _) (fun obj => F.args_object_init_2 obj _) F.entry_enumerate_new (meets_enum1 B)
    ⟨h1, ⟨_, he, rfl⟩, h _ he (Heap.get?_push_of_some _ (Heap.get?_push_size _ B.free)) fun b u x => Heap.get?_push_of_some _ (Heap.get?_push_of_some _ x)⟩

/-- the tuple at a, each item in a new pair -/
def Iet (K : PySem.W.Frag) (a : Addr) : It :=
  ⟨fun i H => ∃ (xs : List V) (x : V), SqT K H a xs ∧ xs[i]? = some x, fun i H v H' => ∃ T x, v = .ref T ∧ H T = none ∧ H' = upd H T (.tup [.int (i : Nat), x]) ∧ ∀ xs, SqT K H a xs → xs[i]? = some x, fun i H => ∃ xs : List V, SqT K H a xs ∧ xs.length ≤ i⟩
theorem turn_enumT {P : Program} {w : World} {K : PySem.W.Frag} {elts : List Expr} {kk : Nat} {tpos : Pos} (a e it : Addr) (hne : e ≠ it) (hea : a ≠ e) (hia : a ≠ it) :
    Turn P w K (.Tuple elts kk tpos) (Iet K a) [e, it] e (fun i h => (∃ old, IsEnum h e it ((i : Nat) : Int) old) ∧ IsTupIter h it a i) where
  mem := List.mem_cons_self ..
  obj := fun i h ⟨⟨old, he⟩, ⟨o, ho, hc, hd⟩⟩ b hb => by
    rcases List.mem_cons.mp hb with rfl | hb
    · exact ⟨_, he, fun v q => nomatch q⟩
    · rw [List.mem_singleton.mp hb]
      exact ⟨o, ho, fun v q => by rw [hd] at q; cases q⟩
  keep := fun i h h' ⟨⟨old, he⟩, ⟨o, ho, r⟩⟩ k => ⟨⟨old, k e (List.mem_cons_self ..) _ he⟩, ⟨o, k it (List.mem_cons_of_mem _ (List.mem_cons_self ..)) o ho, r⟩⟩
  item := by
    intro X hP hw hK hc i pins s σ H E I hf ⟨⟨old, he⟩, hit⟩ ⟨xs, x, hq, hx⟩
    subst hP hw hK
    obtain ⟨its, rv, p, hz⟩ := I.tuple hq
    obtain ⟨u, hu, ru⟩ := rv.get hx
    have hel : e < s.heap.objs.size := Heap.lt_size he
    have hil : it < s.heap.objs.size := hit.elim fun o q => Heap.lt_size q.1
    have hi : i < its.toArray.size := by
      rw [List.size_toArray]
      exact (List.getElem?_eq_some_iff.mp hu).1
    refine wpAny_pyNext_enum_itemD (draws_T (prog := X.prog) (w := X.w) (A := X.A.in1) (I.ok.hd hc) it a hia its.toArray) he ⟨hit, p⟩ hi hne (by simp [hne, Ne.symm hea]) fun y h' tk hy ho hst hT hsz hk => ?_
    obtain rfl : u = y := Option.some.inj (hu.symm.trans (by simpa using hy))
    refine ⟨_, rfl, wpAny_letOwnedTupleGo_enum (s := { s with heap := h', toks := tk + 1 }) ho fun h2 he2 sb => ?_⟩
    have nT : ∀ b ∈ [e, it], b < s.heap.objs.size := fun b hb => by
      rcases List.mem_cons.mp hb with rfl | hb
      · exact hel
      · rw [List.mem_singleton.mp hb]
        exact hil
    have new : ObjOk X.prog X.w (upd H s.heap.objs.size (.tup [.int (i : Nat), x])) h2 s.heap.objs.size (.tup [.int (i : Nat), x]) :=
      ⟨by show 2 ≤ sizeLine; decide, [.int i tk, u], .cons ⟨_, rfl⟩ (.cons ru .nil), ⟨_, (sb.2 _ (Nat.ne_of_gt hel)).trans hT, rfl, _, rfl⟩⟩
    refine ⟨.ref s.heap.objs.size, _, I.turnedNew (t' := tk + 1) (ch := [e, it]) (fun b ob hb q => (sb.2 b fun z => hb (z ▸ List.mem_cons_self ..)).trans (hk b ob (fun z => hb (z ▸ List.mem_cons_self ..)) (fun z => hb (z ▸ List.mem_cons_of_mem _ (List.mem_cons_self ..))) q)) hf (Nat.le_refl _) new,
      rfl, ⟨_, x, rfl, I.hok.fresh (Nat.le_refl _), rfl, fun ys hy => by rw [I.tuple_inj hy hq]; exact hx⟩, ⟨⟨u, ?_⟩, hst.1.elim fun o q => ⟨o, (sb.2 it (Ne.symm hne)).trans q.1, q.2⟩⟩, fun b hb => ?_⟩
    · rw [Int.natCast_add]
      exact he2
    · rw [upd_ne (Nat.ne_of_lt (nT b hb))]
      exact (hf b hb).1
  done := by
    intro X hP hw hK hc i pins s σ H E I hf ⟨⟨old, he⟩, hit⟩ ⟨xs, hq, hx⟩
    subst hP hw hK
    obtain ⟨its, rv, p, hz⟩ := I.tuple hq
    obtain ⟨f0, f1, f2, f3, f4, f5⟩ := hf it (List.mem_cons_of_mem _ (List.mem_cons_self ..))
    have hl : its.length ≤ i := by
      have := rv.length
      omega
    have hT : s.TypeIs (.ref e) "enumerate" := ⟨_, he, rfl⟩
    unfold pyNext
    refine wpAny_bind (wpAny_attempt (wpAny_callSpecial?_slot (name := Str.ofString "__next__") hT F.slot_enumerate_next (wpAny_call_entry F.slot_enumerate_next hT F.entry_enumerate_next ?_ (F.args_enumerate_next_1 _))))
    refine wpAny_bind (m := field (.ref e) 2) (wpAny_field he rfl (x := .ref it) rfl ?_)
    refine wpAny_bind (RZ.nextOf_tuple_end (I.ok.hd hc) hit p (by simpa using hl) fun h' y hk ⟨o, ho, hc'⟩ => ?_)
    exact wpAny_bind (wpAny_isInstance (T := "StopIteration") (b := true) ⟨o, ho, hc'⟩ isSubtype_stop (wpAny_pure ⟨rfl, I.turned (t' := s.toks) (fun b o hb q => hk b o hb q) f0 f1 f3 f4 f5⟩))
  self := fun A i s Q E ⟨⟨_, he⟩, _⟩ h => wpAny_pyIter_enum he h

def iEnumT (K : PySem.W.Frag) (ta : TA) : TI := fun σ H R => ta σ H fun vs H1 => ∃ a xs, vs = [.ref a] ∧ SqT K H1 a xs ∧ R (Iet K a) H1
theorem pi_enumT {X : Cx} {e : Expr} {ta : TA} {p pos tpos : Pos} {elts : List Expr} {kk : Nat} (hg : Gl X "enumerate") (hm : X.mg "enumerate" = none) (ha : PA X [e] ta) (hs : starEach [e] X.env = [(false, eval e X.env)] := by rfl) :
    PI X (.Tuple elts kk tpos) (.Call (.Name "enumerate" p) [e] [] pos) (iEnumT X.K ta) := by
  refine ⟨fun pins s σ H R I h => Call_ (ld_blt I hg hm boot_enumerate (PyProof.Rows.callWith_type1 (thn (ha.run pos pins s σ H _ I h) fun us s1 ⟨vs, H1, I1, r1, a, xs, ex, hq, q⟩ => ?_) hs rfl))⟩
  subst ex
  cases r1 with
  | cons r rr =>
    cases rr
    cases r
    obtain ⟨its, rv, p', hz⟩ := I1.tuple hq
    have ha : a < s1.heap.objs.size := p'.elim fun o q => Heap.lt_size q.1
    refine call_enum1 (begins_tuple a its.toArray) p' fun h' he hit hk => wpAny_pyIter_enum he ?_
    refine ⟨s1.heap.objs.size + 1, [s1.heap.objs.size + 1, s1.heap.objs.size], _, _, H1, rfl, I1.kept (t' := s1.toks) hk, turn_enumT a (s1.heap.objs.size + 1) s1.heap.objs.size (Nat.succ_ne_self _) (Nat.ne_of_lt (Nat.lt_succ_of_lt ha)) (Nat.ne_of_lt ha), ⟨⟨.none, he⟩, ⟨_, hit, rfl, rfl⟩⟩, fun b hb => ?_, q⟩
    have hle : s1.heap.objs.size ≤ b := by
      rcases List.mem_cons.mp hb with z | z
      · rw [z]
        exact Nat.le_succ _
      · rw [List.mem_singleton.mp z]
        exact Nat.le_refl _
    exact I1.fpOk hle (I1.hok.fresh hle)
theorem walk_enumT {K : PySem.W.Frag} {a : Addr} {xs : List V} : Walk (Iet K a) xs.length (fun H => SqT K H a xs) (YPair (fun i => some (.int (i : Nat))) (fun i => xs[i]?)) where
  goes := fun i H hi h => ⟨xs, xs[i], h, List.getElem?_eq_getElem hi⟩
  stops := fun H h => ⟨xs, h, Nat.le_refl _⟩
  yields := fun i H x H' hi h ⟨T, y, e1, e2, e3, e4⟩ => ⟨T, _, y, e1, e2, e3, rfl, e4 xs h⟩
end G
set_option Elab.async false
set_option maxRecDepth 100000
set_option maxHeartbeats 4000000
/-! d.update(e), sorted(d) -/
namespace G
open PySem PySem.Spec PyProof.Rows L2
section
variable {X : Cx}
theorem mt_dupd : MtR X "dict.update" (fun x xs H Q => ∃ (a b : Addr) (kvs more : List (Key × V)), x = .ref a ∧ xs = [.ref b] ∧ H a = some (.dK kvs) ∧ H b = some (.dK more) ∧ a ≠ b ∧ kvs.length + more.length ≤ sizeLine ∧ Q .non (upd H a (.dK (mergeK kvs more)))) := by
  intro pins s σ H x xs v us Q I rx rxs h
  obtain ⟨a, b, kvs, more, rfl, rfl, ha, hb, hne, hsz, q⟩ := h
  cases rx
  obtain ⟨u, rfl, ru⟩ := vals1 rxs
  cases (show u = Value.ref b from ru)
  obtain ⟨z1, lo1, vs, rel1, dd1⟩ := dk_of I.hok ha
  obtain ⟨z2, lo2, ws, rel2, dd2⟩ := dk_of I.hok hb
  refine call_meetsIn PySem.F.slot_dict_update dd1.typeIs PySem.F.entry_dict_update (PySem.F.args_dict_update_2 _ _) (meets_dict_update (mixKind X.prog X.w) a b hne lo2)
    ⟨vs, ws, dd1, dd2, by rw [← rel1.length, ← rel2.length]; exact hsz, fun h' hd' _ hs => ?_⟩
  have he : ∃ q, h'.get? a = some q := let ⟨q, _, _, hq, _⟩ := hd'; ⟨q, hq⟩
  exact ⟨.non, _, d_write (t' := s.toks) I (by rw [ha]; exact True.intro) hs he (dk_new (Nat.le_trans (length_mergeK more kvs) hsz) lo1 (KV.merge rel2 rel1) hd'), rfl, q⟩
/-- sorted(d), a dict of ints of any length -/
theorem cr_sortedAny (hcalm : X.calm = true) : CallR X (.builtin "sorted") (fun xs H Q => ∃ (a : Addr) (kvs : List (Key × V)) (ks : List Int), xs = [.ref a] ∧ Rd H a (.dK kvs) ∧ kvs.map (·.1) = ks.map Sum.inl ∧
    ∀ (ys : List Int) (p : Addr), ys.Perm ks → ys.Pairwise (· ≤ ·) → H p = none → Q (.ref p) (upd H p (.lst (ys.map V.int)))) := by
  intro pins s σ H xs us Q I r ⟨a, kvs, ks, ex, hd, hks, q⟩
  subst ex
  obtain ⟨u, rfl, rx⟩ := vals1 r
  cases (show u = Value.ref a from rx)
  obtain ⟨z, lo, vs, rel, dd⟩ := dk_rd I.hok hd
  obtain ⟨ep, hat⟩ := dd.dictAt
  have hkeys : vs.map (·.1) = ks.map Sum.inl := rel.keys.symm.trans hks
  have hl : vs.length = ks.length := by simpa using congrArg List.length hkeys
  have h16 : vs.length ≤ sizeLine := rel.length ▸ z
  refine Calls.call_function_entry PyProof.Rows.kind_sorted PyProof.Rows.plain_sorted PyProof.Rows.entry_sorted (PyProof.Rows.args_sorted1 _) ?_
  refine wpAny_bind (m := checkCount "sorted" 1 1 _) (wpAny_pure (wpAny_bind (PySem.W.kdu_collect (A := X.A.in1) (PySem.W.kdl_dict (knd := mixKind X.prog X.w) (kvs := vs) (ep := ep) lo) (I.ok.hd hcalm) hat h16 fun h' tk acc hk hacc => ?_)))
  have hal : acc.toList.length = ks.length := by rw [Array.length_toList, hacc.1, hl]
  have hS : IntsAre acc.toList ks := ints_each hal fun j v e => by
    obtain ⟨k, x, e1, e2⟩ := hacc.2 j v ((Array.getElem?_toList ..).symm.trans e)
    have e3 : (ks.map (Sum.inl : Int → Key))[j]? = some k := by rw [← hkeys, List.getElem?_map, e1]; rfl
    rw [List.getElem?_map] at e3
    obtain ⟨y, e4, e5⟩ := Option.map_eq_some_iff.mp e3
    subst e5
    rcases keyIs_shape (show keyIs (Sum.inl y) v = true from e2) with ⟨i, t, ek, ev⟩ | ⟨z, t, ek, ev⟩
    · cases ek
      exact ⟨y, t, e4, ev⟩
    · cases ek
  have I1 : Inv X pins σ H { s with heap := h', toks := tk } := I.kept hk
  refine wpAny_bind (wpAny_newList ?_ (by rw [hal, ← hl]; exact h16))
  have hoL : (h'.push (seqObj "list" acc.toList.toArray 0)).get? h'.objs.size = some (seqObj "list" acc.toList.toArray 0) := Heap.get?_push_size _ rfl
  refine wpAny_bind (s := { s with heap := h'.push (seqObj "list" acc.toList.toArray 0), toks := tk }) (wpAny_holding (wpAny_call_entry PyProof.Rows.slot_list_sort ⟨_, hoL, rfl⟩ PyProof.Rows.entry_list_sort
    (SrtO.list_sort_ord (s := { s with heap := h'.push (seqObj "list" acc.toList.toArray 0), toks := tk }) SrtO.swo_int hoL (by rw [hal, ← hl]; exact h16) (fun h2 => SrtO.ints_sortable hS h2) fun out s1 s2 => ⟨_, rfl, ?_⟩) (PyProof.Rows.args_list_sort _)))
  obtain ⟨g1, g2, g3⟩ := SrtO.ints_out hS s1 s2
  obtain ⟨e', he'⟩ := PyProof.Rows.sortedHeap_at (vs := acc.toList) (out := out.toArray) hoL
  have hlen : ((out.map SrtO.iv).map V.int).length ≤ sizeLine := by
    rw [List.length_map, g2.length_eq, ← hl]
    exact h16
  refine wpAny_pure ⟨_, rfl, .ref h'.objs.size, upd H h'.objs.size (.lst ((out.map SrtO.iv).map V.int)), I1.laid (t' := tk) (fun b u e => ?_) (Nat.le_refl _)
    (show ObjOk X.prog X.w _ _ _ (.lst ((out.map SrtO.iv).map V.int)) from ⟨hlen, out, e', vals_of_ints g1, he'⟩), rfl, q _ _ g2 g3 (I1.hok.fresh (Nat.le_refl _))⟩
  have hb : b < h'.objs.size := Heap.lt_size e
  rw [PyProof.Rows.sortedHeap_old (Nat.ne_of_lt hb) (by rw [size_push']; exact Nat.lt_succ_of_lt hb)]
  exact Heap.get?_push_of_some _ e
end
end G
set_option Elab.async false
set_option maxRecDepth 100000
/-! spans of numbers under xor: bases, annihilators -/
namespace GF
/-! ### bits -/
theorem tb_log {n : Nat} (h : n ≠ 0) : n.testBit n.log2 = true := Nat.testBit_log2 h
theorem tb_above {n i : Nat} (h : n.log2 < i) : n.testBit i = false :=
  Nat.testBit_lt_two_pow (Nat.lt_of_lt_of_le Nat.lt_log2_self (Nat.pow_le_pow_right (by decide) h))
theorem log_of {n i : Nat} (h : n.testBit i = true) (hh : ∀ j, i < j → n.testBit j = false) : n ≠ 0 ∧ n.log2 = i := by
  have h0 : n ≠ 0 := fun z => by rw [z, Nat.zero_testBit] at h; cases h
  refine ⟨h0, ?_⟩
  rcases Nat.lt_trichotomy n.log2 i with c | c | c
  · rw [tb_above c] at h
    cases h
  · exact c
  · have := hh _ c
    rw [tb_log h0] at this
    cases this
theorem le_log {n i : Nat} (h : n.testBit i = true) : i ≤ n.log2 := Nat.le_of_not_lt fun c => by rw [tb_above c] at h; cases h
/-- decided at the highest bit in which they differ -/
theorem lt_of_bit {x y i : Nat} (h1 : x.testBit i = false) (h2 : y.testBit i = true) (hh : ∀ j, i < j → x.testBit j = y.testBit j) : x < y := by
  have key : x / 2 ^ (i + 1) = y / 2 ^ (i + 1) := by
    apply Nat.eq_of_testBit_eq
    intro j
    rw [Nat.testBit_div_two_pow, Nat.testBit_div_two_pow]
    exact hh _ (by omega)
  have hx : x / 2 ^ i % 2 = 0 := by
    have := h1
    rw [Nat.testBit_eq_decide_div_mod_eq] at this
    have := of_decide_eq_false this
    omega
  have hy : y / 2 ^ i % 2 = 1 := by
    have := h2
    rw [Nat.testBit_eq_decide_div_mod_eq] at this
    exact of_decide_eq_true this
  have e1 : ∀ z : Nat, z / 2 ^ (i + 1) = z / 2 ^ i / 2 := fun z => by rw [Nat.pow_succ, Nat.div_div_eq_div_mul]
  rw [e1, e1] at key
  have lt : x / 2 ^ i < y / 2 ^ i := by omega
  exact Nat.lt_of_div_lt_div lt
theorem ne_bit {x y : Nat} (h : x ≠ y) : (x ^^^ y) ≠ 0 := fun z => h (by
  apply Nat.eq_of_testBit_eq
  intro i
  have e : (x ^^^ y).testBit i = false := by rw [z, Nat.zero_testBit]
  rw [Nat.testBit_xor] at e
  cases hx : x.testBit i <;> cases hy : y.testBit i <;> rw [hx, hy] at e <;> simp at e ⊢)
/-- of two different numbers the lower has 0 at the highest bit of their sum -/
theorem bit_of_lt {x y : Nat} (h : x < y) : x.testBit (x ^^^ y).log2 = false ∧ y.testBit (x ^^^ y).log2 = true := by
  have hn : x ≠ y := Nat.ne_of_lt h
  have ht := tb_log (ne_bit hn)
  have hh : ∀ j, (x ^^^ y).log2 < j → x.testBit j = y.testBit j := fun j hj => by
    have := tb_above hj
    rw [Nat.testBit_xor] at this
    cases hx : x.testBit j <;> cases hy : y.testBit j <;> rw [hx, hy] at this <;> simp at this ⊢
  rw [Nat.testBit_xor] at ht
  cases hx : x.testBit (x ^^^ y).log2 <;> cases hy : y.testBit (x ^^^ y).log2 <;> rw [hx, hy] at ht
  · simp at ht
  · exact ⟨rfl, rfl⟩
  · exact absurd (lt_of_bit hy hx fun j hj => (hh j hj).symm) (Nat.lt_asymm h)
  · simp at ht
/-! ### the smaller of v and v ^ r -/
theorem min_is {v r : Nat} (hr : r ≠ 0) : min v (v ^^^ r) = if v.testBit r.log2 = true then v ^^^ r else v := by
  have hb := tb_log hr
  have hh : ∀ j, r.log2 < j → (v ^^^ r).testBit j = v.testBit j := fun j hj => by rw [Nat.testBit_xor, tb_above hj, Bool.xor_false]
  cases hv : v.testBit r.log2
  · rw [if_neg (by decide)]
    have : v < v ^^^ r := lt_of_bit hv (by rw [Nat.testBit_xor, hv, hb]; rfl) fun j hj => (hh j hj).symm
    omega
  · rw [if_pos rfl]
    have : v ^^^ r < v := lt_of_bit (by rw [Nat.testBit_xor, hv, hb]; rfl) hv hh
    omega
theorem min_bit {v r : Nat} (hr : r ≠ 0) : (min v (v ^^^ r)).testBit r.log2 = false := by
  rw [min_is hr]
  split
  · rename_i h
    rw [Nat.testBit_xor, h, tb_log hr]
    rfl
  · rename_i h
    simpa using h
theorem min_other {v r i : Nat} (hr : r ≠ 0) (h : r.testBit i = false) : (min v (v ^^^ r)).testBit i = v.testBit i := by
  rw [min_is hr]
  split
  · rw [Nat.testBit_xor, h, Bool.xor_false]
  · rfl
/-! ### spans -/
def InS : List Nat → Nat → Prop
  | [], x => x = 0
  | v :: vs, x => InS vs x ∨ InS vs (x ^^^ v)
theorem ins_0 : ∀ vs, InS vs 0
  | [] => rfl
  | _ :: vs => .inl (ins_0 vs)
theorem ins_xor : ∀ {vs x y}, InS vs x → InS vs y → InS vs (x ^^^ y)
  | [], x, y, h1, h2 => by
    have e1 : x = 0 := h1
    have e2 : y = 0 := h2
    rw [e1, e2]
    rfl
  | v :: vs, x, y, h1, h2 => by
    have c1 : x ^^^ y ^^^ v = x ^^^ (y ^^^ v) := Nat.xor_assoc ..
    have c2 : x ^^^ y ^^^ v = (x ^^^ v) ^^^ y := by rw [Nat.xor_assoc, Nat.xor_comm y v, ← Nat.xor_assoc]
    have c3 : (x ^^^ v) ^^^ (y ^^^ v) = x ^^^ y := by
      rw [Nat.xor_comm y v, Nat.xor_assoc, ← Nat.xor_assoc v v y, Nat.xor_self, Nat.zero_xor]
    rcases h1 with h1 | h1 <;> rcases h2 with h2 | h2
    · exact .inl (ins_xor h1 h2)
    · exact .inr (c1 ▸ ins_xor h1 h2)
    · exact .inr (c2 ▸ ins_xor h1 h2)
    · exact .inl (c3 ▸ ins_xor h1 h2)
theorem ins_mem : ∀ {vs v}, v ∈ vs → InS vs v
  | w :: vs, v, h => by
    rcases List.mem_cons.mp h with rfl | h
    · exact .inr (by rw [Nat.xor_self]; exact ins_0 vs)
    · exact .inl (ins_mem h)
theorem ins_le : ∀ {vs ws : List Nat}, (∀ v ∈ vs, InS ws v) → ∀ {x}, InS vs x → InS ws x
  | [], ws, _, x, h => by
    have e : x = 0 := h
    rw [e]
    exact ins_0 ws
  | v :: vs, ws, hv, x, h => by
    have hv' := fun u hu => hv u (List.mem_cons_of_mem _ hu)
    rcases h with h | h
    · exact ins_le hv' h
    · have h1 := ins_xor (ins_le hv' h) (hv v (List.mem_cons_self ..))
      rw [Nat.xor_assoc, Nat.xor_self, Nat.xor_zero] at h1
      exact h1
theorem ins_bit {i : Nat} : ∀ {vs : List Nat}, (∀ v ∈ vs, v.testBit i = false) → ∀ {x}, InS vs x → x.testBit i = false
  | [], _, x, h => by
    have e : x = 0 := h
    rw [e, Nat.zero_testBit]
  | v :: vs, hv, x, h => by
    have hv' := fun u hu => hv u (List.mem_cons_of_mem _ hu)
    rcases h with h | h
    · exact ins_bit hv' h
    · have h1 := ins_bit hv' h
      rw [Nat.testBit_xor, hv v (List.mem_cons_self ..), Bool.xor_false] at h1
      exact h1
/-! ### reduced rows -/
def Apart (a b : Nat) : Prop := b.testBit a.log2 = false ∧ a.testBit b.log2 = false
structure Red (rows : List Nat) : Prop where
  pos : ∀ r ∈ rows, r ≠ 0
  ap : rows.Pairwise Apart
theorem Red.tail {r : Nat} {rows : List Nat} (h : Red (r :: rows)) : Red rows := ⟨fun x hx => h.pos x (List.mem_cons_of_mem _ hx), (List.pairwise_cons.mp h.ap).2⟩
/-- the highest bit of what is in the span is one of the rows' -/
theorem lead : ∀ {rows : List Nat}, Red rows → ∀ {y}, InS rows y → y ≠ 0 → ∃ r ∈ rows, r.log2 = y.log2
  | [], _, y, h, hy => absurd h hy
  | r :: rows, R, y, h, hy => by
    obtain ⟨ap, _⟩ := List.pairwise_cons.mp R.ap
    have hr := R.pos r (List.mem_cons_self ..)
    rcases h with h | h
    · obtain ⟨u, hu, e⟩ := lead R.tail h hy
      exact ⟨u, List.mem_cons_of_mem _ hu, e⟩
    · by_cases hz : y ^^^ r = 0
      · have e : y = r := Classical.byContradiction fun n => ne_bit n hz
        exact ⟨r, List.mem_cons_self .., by rw [e]⟩
      · obtain ⟨u, hu, e⟩ := lead R.tail h hz
        have hzr : (y ^^^ r).testBit r.log2 = false := ins_bit (fun v hv => (ap v hv).1) h
        have hru : r.testBit u.log2 = false := (ap u hu).2
        have ey : ∀ j, y.testBit j = ((y ^^^ r).testBit j ^^ r.testBit j) := fun j => by
          rw [Nat.testBit_xor]
          cases y.testBit j <;> cases r.testBit j <;> rfl
        rcases Nat.lt_trichotomy r.log2 u.log2 with c | c | c
        · refine ⟨u, List.mem_cons_of_mem _ hu, (log_of (i := u.log2) ?_ fun j hj => ?_).2.symm⟩
          · rw [ey, hru, e, tb_log hz]
            rfl
          · rw [ey, tb_above (by omega), tb_above (by omega)]
            rfl
        · rw [← c, tb_log hr] at hru
          cases hru
        · refine ⟨r, List.mem_cons_self .., (log_of (i := r.log2) ?_ fun j hj => ?_).2.symm⟩
          · rw [ey, hzr, tb_log hr]
            rfl
          · rw [ey, tb_above (by omega), tb_above (by omega)]
            rfl
theorem red_inj {rows : List Nat} (R : Red rows) : ∀ {a b}, a ∈ rows → b ∈ rows → a.testBit b.log2 = true → a = b := fun {a b} ha hb h => by
  obtain ⟨pos, ap⟩ := R
  induction rows with
  | nil => cases ha
  | cons r rows ih =>
    obtain ⟨a1, a2⟩ := List.pairwise_cons.mp ap
    rcases List.mem_cons.mp ha with ea | ha'
    · rcases List.mem_cons.mp hb with eb | hb'
      · rw [ea, eb]
      · rw [ea, (a1 b hb').2] at h
        cases h
    · rcases List.mem_cons.mp hb with eb | hb'
      · rw [eb, (a1 a ha').1] at h
        cases h
      · exact ih ha' hb' (fun x hx => pos x (List.mem_cons_of_mem _ hx)) a2
/-- each row is the least with its highest bit -/
theorem least {rows : List Nat} (R : Red rows) {r x : Nat} (hr : r ∈ rows) (hx : InS rows x) (e : x.log2 = r.log2) (h0 : x ≠ 0) : r ≤ x := by
  refine Nat.le_of_not_lt fun c => ?_
  obtain ⟨b1, b2⟩ := bit_of_lt c
  have hs : InS rows (x ^^^ r) := ins_xor hx (ins_mem hr)
  obtain ⟨u, hu, eu⟩ := lead R hs (ne_bit (Nat.ne_of_lt c))
  rw [← eu] at b1 b2
  have := red_inj R hr hu b2
  subst this
  rw [← e, tb_log h0] at b1
  cases b1
/-! ### the basis of a set, told by what it is -/
structure Can (S : Nat → Prop) (L : List Nat) : Prop where
  srt : L.Pairwise (· < ·)
  iff : ∀ x, x ∈ L ↔ (x ≠ 0 ∧ S x ∧ ∀ y, S y → y ≠ 0 → y.log2 = x.log2 → x ≤ y)
theorem sorted_ext : ∀ {a b : List Nat}, a.Pairwise (· < ·) → b.Pairwise (· < ·) → (∀ x, x ∈ a ↔ x ∈ b) → a = b
  | [], [], _, _, _ => rfl
  | [], y :: b, _, _, h => nomatch (h y).mpr (List.mem_cons_self ..)
  | x :: a, [], _, _, h => nomatch (h x).mp (List.mem_cons_self ..)
  | x :: a, y :: b, ha, hb, h => by
    obtain ⟨a1, a2⟩ := List.pairwise_cons.mp ha
    obtain ⟨b1, b2⟩ := List.pairwise_cons.mp hb
    have e : x = y := by
      rcases List.mem_cons.mp ((h x).mp (List.mem_cons_self ..)) with e | e
      · exact e
      · rcases List.mem_cons.mp ((h y).mpr (List.mem_cons_self ..)) with e2 | e2
        · exact e2.symm
        · have := b1 x e
          have := a1 y e2
          omega
    subst e
    rw [sorted_ext a2 b2 fun z => ⟨fun hz => ?_, fun hz => ?_⟩]
    · rcases List.mem_cons.mp ((h z).mp (List.mem_cons_of_mem _ hz)) with e | e
      · have := a1 z hz
        omega
      · exact e
    · rcases List.mem_cons.mp ((h z).mpr (List.mem_cons_of_mem _ hz)) with e | e
      · have := b1 z hz
        omega
      · exact e
theorem Can.eq {S T : Nat → Prop} {a b : List Nat} (ha : Can S a) (hb : Can T b) (h : ∀ x, S x ↔ T x) : a = b :=
  sorted_ext ha.srt hb.srt fun x => by
    rw [ha.iff, hb.iff, h]
    exact ⟨fun ⟨a, b, c⟩ => ⟨a, b, fun y q => c y ((h y).mpr q)⟩, fun ⟨a, b, c⟩ => ⟨a, b, fun y q => c y ((h y).mp q)⟩⟩
theorem red_can {rows : List Nat} (R : Red rows) (hs : rows.Pairwise (· < ·)) : Can (InS rows) rows := by
  refine ⟨hs, fun x => ⟨fun hx => ⟨R.pos x hx, ins_mem hx, fun y hy h0 e => least R hx hy e h0⟩, fun ⟨h0, hx, hl⟩ => ?_⟩⟩
  obtain ⟨r, hr, e⟩ := lead R hx h0
  have h1 := hl r (ins_mem hr) (R.pos r hr) e
  have h2 := least R hr hx e.symm h0
  have e2 : x = r := Nat.le_antisymm h1 h2
  rw [e2]
  exact hr
/-! ### remainders -/
def rem (rows : List Nat) (v : Nat) : Nat := rows.foldl (fun v r => min v (v ^^^ r)) v
theorem min_or (v r : Nat) : min v (v ^^^ r) = v ∨ min v (v ^^^ r) = v ^^^ r := by omega
theorem rem_in : ∀ (rows : List Nat) (v : Nat), InS rows (rem rows v ^^^ v)
  | [], v => by
    show v ^^^ v = 0
    rw [Nat.xor_self]
  | r :: rows, v => by
    have h := rem_in rows (min v (v ^^^ r))
    show InS rows (rem rows (min v (v ^^^ r)) ^^^ v) ∨ InS rows (rem rows (min v (v ^^^ r)) ^^^ v ^^^ r)
    rcases min_or v r with e | e <;> rw [e] at h ⊢
    · exact .inl h
    · exact .inr (by rw [Nat.xor_assoc]; exact h)
theorem rem_keeps {i : Nat} : ∀ {rows : List Nat} {v : Nat}, (∀ r ∈ rows, r ≠ 0) → (∀ r ∈ rows, r.testBit i = false) → (rem rows v).testBit i = v.testBit i
  | [], _, _, _ => rfl
  | r :: rows, v, h0, h => by
    show (rem rows (min v (v ^^^ r))).testBit i = _
    rw [rem_keeps (fun x hx => h0 x (List.mem_cons_of_mem _ hx)) (fun x hx => h x (List.mem_cons_of_mem _ hx)), min_other (h0 r (List.mem_cons_self ..)) (h r (List.mem_cons_self ..))]
theorem rem_clear : ∀ {rows : List Nat} {v : Nat}, Red rows → ∀ r ∈ rows, (rem rows v).testBit r.log2 = false
  | r :: rows, v, R, u, hu => by
    obtain ⟨ap, _⟩ := List.pairwise_cons.mp R.ap
    show (rem rows (min v (v ^^^ r))).testBit u.log2 = false
    rcases List.mem_cons.mp hu with rfl | hu
    · rw [rem_keeps R.tail.pos fun x hx => (ap x hx).1, min_bit (R.pos _ (List.mem_cons_self ..))]
    · exact rem_clear R.tail u hu
theorem rem_zero {rows : List Nat} (R : Red rows) (v : Nat) : rem rows v = 0 ↔ InS rows v := by
  constructor
  · intro h
    have := rem_in rows v
    rw [h, Nat.zero_xor] at this
    exact this
  · intro h
    refine Classical.byContradiction fun n => ?_
    have h1 := ins_xor (rem_in rows v) h
    rw [Nat.xor_assoc, Nat.xor_self, Nat.xor_zero] at h1
    obtain ⟨r, hr, e⟩ := lead R h1 n
    have := rem_clear (v := v) R r hr
    rw [e, tb_log n] at this
    cases this
/-! ### the loop that reduces -/
def step (rows : List Nat) (v : Nat) : List Nat := if 0 < rem rows v then rows.map (fun r => min r (r ^^^ rem rows v)) ++ [rem rows v] else rows
def red0 (vs : List Nat) : List Nat := vs.foldl step []
theorem min_log {r x : Nat} (hr : r ≠ 0) (hx : x ≠ 0) (h : x.testBit r.log2 = false) : min r (r ^^^ x) ≠ 0 ∧ (min r (r ^^^ x)).log2 = r.log2 := by
  refine log_of (by rw [min_other hx h, tb_log hr]) fun j hj => ?_
  rw [min_is hx]
  split
  · rename_i hb
    have := le_log hb
    rw [Nat.testBit_xor, tb_above hj, tb_above (by omega)]
    rfl
  · exact tb_above hj
theorem step_red {rows : List Nat} {v : Nat} (R : Red rows) : Red (step rows v) := by
  unfold step
  split
  · rename_i hp
    have hx : rem rows v ≠ 0 := Nat.ne_of_gt hp
    have cl := rem_clear (v := v) R
    generalize rem rows v = x at hx cl
    refine ⟨fun y hy => ?_, ?_⟩
    · rcases List.mem_append.mp hy with hy | hy
      · obtain ⟨r, hr, rfl⟩ := List.mem_map.mp hy
        exact (min_log (R.pos r hr) hx (cl r hr)).1
      · rw [List.mem_singleton.mp hy]
        exact hx
    · rw [List.pairwise_append]
      refine ⟨?_, List.pairwise_singleton .., fun a ha b hb => ?_⟩
      · rw [List.pairwise_map]
        refine List.Pairwise.imp_of_mem (fun {a b} ha hb h => ?_) R.ap
        have la := (min_log (R.pos a ha) hx (cl a ha)).2
        have lb := (min_log (R.pos b hb) hx (cl b hb)).2
        exact ⟨by rw [la, min_other hx (cl a ha)]; exact h.1, by rw [lb, min_other hx (cl b hb)]; exact h.2⟩
      · rw [List.mem_singleton.mp hb]
        obtain ⟨r, hr, rfl⟩ := List.mem_map.mp ha
        exact ⟨by rw [(min_log (R.pos r hr) hx (cl r hr)).2]; exact cl r hr, min_bit hx⟩
  · exact R
theorem step_span {rows : List Nat} {v : Nat} (R : Red rows) (x : Nat) : InS (step rows v) x ↔ InS (v :: rows) x := by
  have hv : InS (v :: rows) (rem rows v) := by
    have h1 : InS (v :: rows) (rem rows v ^^^ v) := .inl (rem_in rows v)
    have h2 := ins_xor h1 (ins_mem (List.mem_cons_self ..))
    rw [Nat.xor_assoc, Nat.xor_self, Nat.xor_zero] at h2
    exact h2
  unfold step
  split
  · constructor
    · refine ins_le fun u hu => ?_
      rcases List.mem_append.mp hu with hu | hu
      · obtain ⟨r, hr, rfl⟩ := List.mem_map.mp hu
        have hr' : InS (v :: rows) r := ins_mem (List.mem_cons_of_mem _ hr)
        rcases min_or r (rem rows v) with e | e <;> rw [e]
        · exact hr'
        · exact ins_xor hr' hv
      · rw [List.mem_singleton.mp hu]
        exact hv
    · have hX : InS (rows.map (fun r => min r (r ^^^ rem rows v)) ++ [rem rows v]) (rem rows v) := ins_mem (List.mem_append_right _ (List.mem_cons_self ..))
      have hR : ∀ r ∈ rows, InS (rows.map (fun r => min r (r ^^^ rem rows v)) ++ [rem rows v]) r := fun r hr => by
        have h1 : InS (rows.map (fun r => min r (r ^^^ rem rows v)) ++ [rem rows v]) (min r (r ^^^ rem rows v)) := ins_mem (List.mem_append_left _ (List.mem_map.mpr ⟨r, hr, rfl⟩))
        rcases min_or r (rem rows v) with e | e <;> rw [e] at h1
        · exact h1
        · have h2 := ins_xor h1 hX
          rw [Nat.xor_assoc, Nat.xor_self, Nat.xor_zero] at h2
          exact h2
      refine ins_le fun u hu => ?_
      rcases List.mem_cons.mp hu with rfl | hu
      · have h1 := ins_le hR (rem_in rows u)
        have h2 := ins_xor h1 hX
        rw [Nat.xor_comm (rem rows u) u, Nat.xor_assoc, Nat.xor_self, Nat.xor_zero] at h2
        exact h2
      · exact hR u hu
  · rename_i hp
    have h0 : rem rows v = 0 := by omega
    have hv0 := (rem_zero R v).mp h0
    constructor
    · exact fun h => .inl h
    · refine ins_le fun u hu => ?_
      rcases List.mem_cons.mp hu with rfl | hu
      · exact hv0
      · exact ins_mem hu
theorem foldl_red : ∀ (vs rows : List Nat), Red rows → Red (vs.foldl step rows) ∧ ∀ x, InS (vs.foldl step rows) x ↔ InS (vs ++ rows) x
  | [], rows, R => ⟨R, fun x => Iff.rfl⟩
  | v :: vs, rows, R => by
    obtain ⟨h1, h2⟩ := foldl_red vs (step rows v) (step_red R)
    refine ⟨h1, fun x => (h2 x).trans ?_⟩
    constructor
    · refine ins_le fun u hu => ?_
      rcases List.mem_append.mp hu with hu | hu
      · exact ins_mem (List.mem_cons_of_mem _ (List.mem_append_left _ hu))
      · refine ins_le (fun z hz => ?_) ((step_span R u).mp (ins_mem hu))
        rcases List.mem_cons.mp hz with rfl | hz
        · exact ins_mem (List.mem_cons_self ..)
        · exact ins_mem (List.mem_cons_of_mem _ (List.mem_append_right _ hz))
    · have hst : ∀ z, InS (step rows v) z → InS (vs ++ step rows v) z := fun z => ins_le fun y hy => ins_mem (List.mem_append_right _ hy)
      refine ins_le fun u hu => ?_
      rcases List.mem_cons.mp hu with rfl | hu
      · exact hst _ ((step_span R _).mpr (ins_mem (List.mem_cons_self ..)))
      · rcases List.mem_append.mp hu with hu | hu
        · exact ins_mem (List.mem_append_left _ hu)
        · exact hst _ ((step_span R _).mpr (ins_mem (List.mem_cons_of_mem _ hu)))
theorem red0_red (vs : List Nat) : Red (red0 vs) := (foldl_red vs [] ⟨fun _ h => (by cases h), List.Pairwise.nil⟩).1
theorem red0_span (vs : List Nat) (x : Nat) : InS (red0 vs) x ↔ InS vs x := by
  have := (foldl_red vs [] ⟨fun _ h => (by cases h), List.Pairwise.nil⟩).2 x
  rw [List.append_nil] at this
  exact this
theorem Red.perm {a b : List Nat} (R : Red a) (p : b.Perm a) : Red b :=
  ⟨fun x hx => R.pos x (p.mem_iff.mp hx), (p.pairwise_iff fun {x y} h => ⟨h.2, h.1⟩).mpr R.ap⟩
theorem span_perm {a b : List Nat} (p : b.Perm a) (x : Nat) : InS b x ↔ InS a x :=
  ⟨ins_le fun u hu => ins_mem (p.mem_iff.mp hu), ins_le fun u hu => ins_mem (p.mem_iff.mpr hu)⟩
theorem red_nodup {rows : List Nat} (R : Red rows) : rows.Nodup := by
  refine List.Pairwise.imp_of_mem (fun {a b} ha _ h e => ?_) R.ap
  subst e
  have := h.1
  rw [tb_log (R.pos a ha)] at this
  cases this
/-- sorted, the rows are the basis -/
theorem sorted_can {vs L : List Nat} (p : L.Perm (red0 vs)) (hs : L.Pairwise (· ≤ ·)) : Can (InS vs) L ∧ Red L := by
  have R := (red0_red vs).perm p
  have nd := red_nodup R
  have hlt : L.Pairwise (· < ·) := (hs.and nd).imp fun {a b} h => by
    have h2 : a ≠ b := h.2
    have h1 : a ≤ b := h.1
    omega
  have C := red_can R hlt
  refine ⟨⟨hlt, fun x => (C.iff x).trans ?_⟩, R⟩
  have e : ∀ y, InS L y ↔ InS vs y := fun y => (span_perm p y).trans (red0_span vs y)
  rw [e]
  exact ⟨fun ⟨a, b, c⟩ => ⟨a, b, fun y q => c y ((e y).mpr q)⟩, fun ⟨a, b, c⟩ => ⟨a, b, fun y q => c y ((e y).mp q)⟩⟩
end GF
set_option Elab.async false
set_option maxRecDepth 100000
/-! parity, the masks that are orthogonal to vectors -/
namespace GF
/-- how many one bits -/
def pc (n : Nat) : Nat := if h : n = 0 then 0 else n % 2 + pc (n / 2)
termination_by n
decreasing_by omega
theorem pc_0 : pc 0 = 0 := by rw [pc]; rfl
theorem pc_eq (n : Nat) : pc n = n % 2 + pc (n / 2) := by
  by_cases h : n = 0
  · subst h
    rw [pc_0]
  · rw [pc, dif_neg h]
def par (n : Nat) : Nat := pc n % 2
theorem par_0 : par 0 = 0 := by unfold par; rw [pc_0]
theorem par_eq (n : Nat) : par n = (n % 2 + par (n / 2)) % 2 := by
  unfold par
  rw [pc_eq n]
  omega
theorem par_lt (n : Nat) : par n < 2 := Nat.mod_lt _ (by decide)
theorem par_xor (a b : Nat) : par (a ^^^ b) = (par a + par b) % 2 := by
  induction a using Nat.strongRecOn generalizing b with
  | _ a ih =>
    by_cases h : a = 0
    · subst h
      rw [Nat.zero_xor, par_0]
      have := par_lt b
      omega
    · have e := ih (a / 2) (by omega) (b / 2)
      rw [par_eq (a ^^^ b), Nat.xor_div_two, e, par_eq a, par_eq b]
      have h1 := @Nat.xor_mod_two_eq_one a b
      omega
theorem par_pow : ∀ l, par (2 ^ l) = 1
  | 0 => by
    rw [par_eq]
    show (1 % 2 + par (1 / 2)) % 2 = 1
    rw [show (1 / 2 : Nat) = 0 from rfl, par_0]
  | l + 1 => by
    rw [par_eq, Nat.pow_succ, Nat.mul_mod_left, Nat.mul_div_cancel _ (by decide), par_pow l]
/-- the parity of a & b -/
def dot (a b : Nat) : Nat := par (a &&& b)
theorem dot_comm (a b : Nat) : dot a b = dot b a := by unfold dot; rw [Nat.and_comm]
theorem dot_xor_l (a b c : Nat) : dot (a ^^^ b) c = (dot a c + dot b c) % 2 := by unfold dot; rw [Nat.and_xor_distrib_right, par_xor]
theorem dot_xor_r (a b c : Nat) : dot a (b ^^^ c) = (dot a b + dot a c) % 2 := by unfold dot; rw [Nat.and_xor_distrib_left, par_xor]
theorem dot_0 (a : Nat) : dot a 0 = 0 := by unfold dot; rw [Nat.and_zero, par_0]
theorem and_pow (x l : Nat) : x &&& 2 ^ l = if x.testBit l = true then 2 ^ l else 0 := by
  apply Nat.eq_of_testBit_eq
  intro i
  rw [Nat.testBit_and, Nat.testBit_two_pow]
  by_cases e : l = i
  · subst e
    cases h : x.testBit l
    · rw [if_neg (by decide), Nat.zero_testBit]
      rfl
    · rw [if_pos rfl, Nat.testBit_two_pow]
      rfl
  · rw [decide_eq_false e, Bool.and_false]
    split
    · rw [Nat.testBit_two_pow, decide_eq_false e]
    · rw [Nat.zero_testBit]
def has (x l : Nat) : Nat := if x.testBit l = true then 1 else 0
theorem dot_pow (x l : Nat) : dot x (2 ^ l) = has x l := by
  unfold dot has
  rw [and_pow]
  split
  · exact par_pow l
  · exact par_0
theorem ins_dot {m : Nat} : ∀ {vs : List Nat}, (∀ v ∈ vs, dot v m = 0) → ∀ {x}, InS vs x → dot x m = 0
  | [], _, x, h => by
    have e : x = 0 := h
    rw [e, dot_comm, dot_0]
  | v :: vs, hv, x, h => by
    have hv' := fun u hu => hv u (List.mem_cons_of_mem _ hu)
    rcases h with h | h
    · exact ins_dot hv' h
    · have h1 := ins_dot hv' h
      rw [dot_xor_l, hv v (List.mem_cons_self ..)] at h1
      have : dot x m < 2 := par_lt _
      omega
theorem add_pow {n l : Nat} (h : n.testBit l = false) : n + 2 ^ l = n ^^^ 2 ^ l := by
  have e := Bits.nat_xor_add_and n (2 ^ l)
  rw [and_pow, if_neg (by rw [h]; decide)] at e
  omega
/-- powers of two added, one by one, where there was none -/
theorem add_pows (x w : Nat) : ∀ (ls : List Nat) (n : Nat), ls.Nodup → (∀ l ∈ ls, n.testBit l = false ∧ l < w) → n < 2 ^ w →
    dot x (n + (ls.map (2 ^ ·)).sum) = (dot x n + (ls.map (has x)).sum) % 2 ∧ n + (ls.map (2 ^ ·)).sum < 2 ^ w ∧ ∀ i, i ∉ ls → (n + (ls.map (2 ^ ·)).sum).testBit i = n.testBit i
  | [], n, _, _, hn => by
    have : dot x n < 2 := par_lt _
    refine ⟨?_, hn, fun _ _ => rfl⟩
    show dot x n = (dot x n + 0) % 2
    omega
  | l :: ls, n, nd, h, hn => by
    obtain ⟨h1, h2⟩ := List.nodup_cons.mp nd
    obtain ⟨hb, hw⟩ := h l (List.mem_cons_self ..)
    have e : n + 2 ^ l = n ^^^ 2 ^ l := add_pow hb
    have hlt : n ^^^ 2 ^ l < 2 ^ w := Nat.xor_lt_two_pow hn (Nat.pow_lt_pow_right (by decide) hw)
    have hbits : ∀ i, i ≠ l → (n ^^^ 2 ^ l).testBit i = n.testBit i := fun i hi => by
      rw [Nat.testBit_xor, Nat.testBit_two_pow, decide_eq_false (Ne.symm hi), Bool.xor_false]
    obtain ⟨i1, i2, i3⟩ := add_pows x w ls (n ^^^ 2 ^ l) h2 (fun k hk => by
      have hne : k ≠ l := fun z => h1 (z ▸ hk)
      rw [hbits k hne]
      exact h k (List.mem_cons_of_mem _ hk)) hlt
    have e2 : n + ((l :: ls).map (2 ^ ·)).sum = (n ^^^ 2 ^ l) + (ls.map (2 ^ ·)).sum := by
      rw [List.map_cons, List.sum_cons, ← e]
      omega
    rw [e2]
    refine ⟨?_, i2, fun i hi => ?_⟩
    · rw [i1, dot_xor_r, dot_pow, List.map_cons, List.sum_cons]
      omega
    · rw [i3 i fun z => hi (List.mem_cons_of_mem _ z), hbits i fun z => hi (z ▸ List.mem_cons_self ..)]
/-! ### the masks -/
def mk (L : List Nat) (j : Nat) : Nat := 2 ^ j + ((L.filter fun r => r.testBit j).map fun r => 2 ^ r.log2).sum
def isFree (L : List Nat) (j : Nat) : Prop := ∀ r ∈ L, r.log2 ≠ j
section
variable {L : List Nat} {w : Nat}
theorem red_logs (R : Red L) : (L.map Nat.log2).Nodup := by
  refine List.pairwise_map.mpr (List.Pairwise.imp_of_mem (fun {a b} ha hb h e => ?_) R.ap)
  have := h.1
  rw [e, tb_log (R.pos b hb)] at this
  cases this
theorem mk_all (R : Red L) (hw : ∀ r ∈ L, r < 2 ^ w) {j : Nat} (hj : j < w) (hf : isFree L j) (x : Nat) :
    dot x (mk L j) = (has x j + ((L.filter fun r => r.testBit j).map fun r => has x r.log2).sum) % 2 ∧ mk L j < 2 ^ w ∧ (∀ i, isFree L i → (mk L j).testBit i = decide (j = i)) := by
  have nd : ((L.filter fun r => r.testBit j).map Nat.log2).Nodup := (red_logs R).sublist (List.Sublist.map _ List.filter_sublist)
  obtain ⟨h1, h2, h3⟩ := add_pows x w ((L.filter fun r => r.testBit j).map Nat.log2) (2 ^ j) nd (fun l hl => by
    obtain ⟨r, hr, rfl⟩ := List.mem_map.mp hl
    have hr' := (List.mem_filter.mp hr).1
    refine ⟨?_, (Nat.log2_lt (R.pos r hr')).mpr (hw r hr')⟩
    rw [Nat.testBit_two_pow]
    exact decide_eq_false (fun z => hf r hr' z.symm)) (Nat.pow_lt_pow_right (by decide) hj)
  rw [List.map_map] at h1 h2 h3
  rw [List.map_map, dot_pow] at h1
  refine ⟨h1, h2, fun i hi => ?_⟩
  have e := h3 i (fun z => by
    obtain ⟨r, hr, e⟩ := List.mem_map.mp z
    exact hi r (List.mem_filter.mp hr).1 e)
  rw [Nat.testBit_two_pow] at e
  exact e
theorem sum_own : ∀ {L : List Nat}, Red L → ∀ {x}, x ∈ L → ∀ j, ((L.filter fun r => r.testBit j).map fun r => has x r.log2).sum = has x j
  | r :: L, R, x, hx, j => by
    obtain ⟨ap, _⟩ := List.pairwise_cons.mp R.ap
    have zero : ∀ (M : List Nat), (∀ u ∈ M, x.testBit u.log2 = false) → ((M.filter fun r => r.testBit j).map fun r => has x r.log2).sum = 0 := by
      intro M
      induction M with
      | nil => intro _; rfl
      | cons u M ih =>
        intro hM
        have i1 := ih fun z hz => hM z (List.mem_cons_of_mem _ hz)
        rw [List.filter_cons]
        split
        · rw [List.map_cons, List.sum_cons, i1]
          unfold has
          rw [hM u (List.mem_cons_self ..)]
          rfl
        · exact i1
    rw [List.filter_cons]
    rcases List.mem_cons.mp hx with rfl | hx
    · have z := zero L fun u hu => (ap u hu).2
      split
      · rename_i hj
        rw [List.map_cons, List.sum_cons, z]
        unfold has
        rw [tb_log (R.pos x (List.mem_cons_self ..)), hj]
        rfl
      · rename_i hj
        rw [z]
        unfold has
        rw [if_neg hj]
    · have i1 := sum_own R.tail hx j
      have hz : has x r.log2 = 0 := by
        unfold has
        rw [(ap x hx).1]
        rfl
      split
      · rw [List.map_cons, List.sum_cons, i1, hz]
        omega
      · exact i1
/-- orthogonal to all of them -/
def Orth (vs : List Nat) (m : Nat) : Prop := ∀ v ∈ vs, dot v m = 0
theorem mk_orth (R : Red L) (hw : ∀ r ∈ L, r < 2 ^ w) {j : Nat} (hj : j < w) (hf : isFree L j) : Orth L (mk L j) := fun x hx => by
  rw [(mk_all R hw hj hf x).1, sum_own R hx]
  omega
theorem orth_xor {vs : List Nat} {a b : Nat} (ha : Orth vs a) (hb : Orth vs b) : Orth vs (a ^^^ b) := fun v hv => by
  rw [dot_xor_r, ha v hv, hb v hv]
/-- free bits cleared, one by one -/
def clean (L : List Nat) : List Nat → Nat → Nat
  | [], m => m
  | j :: js, m => clean L js (if m.testBit j = true then m ^^^ mk L j else m)
theorem clean_all (R : Red L) (hw : ∀ r ∈ L, r < 2 ^ w) (M : List Nat) : ∀ (js : List Nat) (m : Nat), (∀ j ∈ js, j < w ∧ isFree L j ∧ mk L j ∈ M) → m < 2 ^ w → Orth L m →
    clean L js m < 2 ^ w ∧ Orth L (clean L js m) ∧ InS M (clean L js m ^^^ m) ∧ (∀ j ∈ js, (clean L js m).testBit j = false) ∧ (∀ i, isFree L i → m.testBit i = false → (clean L js m).testBit i = false)
  | [], m, _, hm, ho => ⟨hm, ho, by show InS M (m ^^^ m); rw [Nat.xor_self]; exact ins_0 M, (fun _ h => by cases h), fun _ _ h => h⟩
  | j :: js, m, hj, hm, ho => by
    obtain ⟨j1, j2, j3⟩ := hj j (List.mem_cons_self ..)
    have hj' := fun k hk => hj k (List.mem_cons_of_mem _ hk)
    have mb := (mk_all R hw j1 j2 0).2
    show clean L js _ < 2 ^ w ∧ Orth L (clean L js _) ∧ InS M (clean L js _ ^^^ m) ∧ (∀ k ∈ j :: js, (clean L js _).testBit k = false) ∧ _
    cases hb : m.testBit j
    · rw [if_neg (by decide)]
      obtain ⟨a1, a2, a3, a4, a5⟩ := clean_all R hw M js m hj' hm ho
      refine ⟨a1, a2, a3, fun k hk => ?_, fun i hi h => ?_⟩
      · rcases List.mem_cons.mp hk with rfl | hk
        · exact a5 _ j2 hb
        · exact a4 k hk
      · show (clean L js _).testBit i = false
        rw [if_neg (by rw [hb]; decide)]
        exact a5 i hi h
    · rw [if_pos rfl]
      obtain ⟨a1, a2, a3, a4, a5⟩ := clean_all R hw M js (m ^^^ mk L j) hj' (Nat.xor_lt_two_pow hm mb.1) (orth_xor ho (mk_orth R hw j1 j2))
      refine ⟨a1, a2, ?_, fun k hk => ?_, fun i hi h => ?_⟩
      · have := ins_xor a3 (ins_mem j3)
        rw [← Nat.xor_assoc, Nat.xor_assoc, Nat.xor_self, Nat.xor_zero] at this
        exact this
      · rcases List.mem_cons.mp hk with rfl | hk
        · refine a5 _ j2 ?_
          rw [Nat.testBit_xor, hb, mb.2 _ j2, decide_eq_true rfl]
          rfl
        · exact a4 k hk
      · show (clean L js _).testBit i = false
        rw [if_pos hb]
        refine a5 i hi ?_
        have hne : j ≠ i := fun z => by rw [z] at hb; rw [hb] at h; cases h
        rw [Nat.testBit_xor, h, mb.2 i hi, decide_eq_false hne]
        rfl
/-- orthogonal, and no free bit: nothing -/
theorem no_free (R : Red L) {m : Nat} (ho : Orth L m) (h : ∀ i, isFree L i → m.testBit i = false) : m = 0 := by
  refine Classical.byContradiction fun n => ?_
  obtain ⟨i, hi⟩ := Nat.exists_testBit_of_ne_zero n
  have hex : ∃ r ∈ L, r.log2 = i := Classical.byContradiction fun q => by
    have : isFree L i := fun r hr e => q ⟨r, hr, e⟩
    rw [h i this] at hi
    cases hi
  obtain ⟨r, hr, rfl⟩ := hex
  have e : r &&& m = 2 ^ r.log2 := by
    apply Nat.eq_of_testBit_eq
    intro k
    rw [Nat.testBit_and, Nat.testBit_two_pow]
    by_cases hk : r.log2 = k
    · rw [← hk, tb_log (R.pos r hr), hi, decide_eq_true rfl]
      rfl
    · rw [decide_eq_false hk]
      cases h1 : r.testBit k
      · rfl
      · cases h2 : m.testBit k
        · rfl
        · exfalso
          have hex : ∃ u ∈ L, u.log2 = k := Classical.byContradiction fun q => by
            have : isFree L k := fun r hr e => q ⟨r, hr, e⟩
            rw [h k this] at h2
            cases h2
          obtain ⟨u, hu, rfl⟩ := hex
          exact hk (by rw [red_inj R hr hu h1])
  have := ho r hr
  unfold dot at this
  rw [e, par_pow] at this
  cases this
/-- the masks span all that is orthogonal -/
theorem masks_span (R : Red L) (hw : ∀ r ∈ L, r < 2 ^ w) {js : List Nat} (hjs : ∀ j, j ∈ js ↔ j < w ∧ isFree L j) (m : Nat) : InS (js.map (mk L)) m ↔ m < 2 ^ w ∧ Orth L m := by
  have hall : ∀ j ∈ js, j < w ∧ isFree L j ∧ mk L j ∈ js.map (mk L) := fun j hj => ⟨((hjs j).mp hj).1, ((hjs j).mp hj).2, List.mem_map.mpr ⟨j, hj, rfl⟩⟩
  constructor
  · have key : ∀ (ks : List Nat), (∀ j ∈ ks, j < w ∧ isFree L j) → ∀ {m}, InS (ks.map (mk L)) m → m < 2 ^ w ∧ Orth L m := by
      intro ks
      induction ks with
      | nil =>
        intro _ m h
        have e : m = 0 := h
        rw [e]
        exact ⟨Nat.two_pow_pos w, fun v _ => dot_0 v⟩
      | cons k ks ih =>
        intro hk m h
        have hk' := @ih fun j hj => hk j (List.mem_cons_of_mem _ hj)
        obtain ⟨k1, k2⟩ := hk k (List.mem_cons_self ..)
        rcases h with h | h
        · exact hk' h
        · obtain ⟨a, b⟩ := hk' h
          have c1 := Nat.xor_lt_two_pow a (mk_all R hw k1 k2 0).2.1
          have c2 := orth_xor b (mk_orth R hw k1 k2)
          rw [Nat.xor_assoc, Nat.xor_self, Nat.xor_zero] at c1 c2
          exact ⟨c1, c2⟩
    exact key js fun j hj => (hjs j).mp hj
  · rintro ⟨hm, ho⟩
    obtain ⟨a1, a2, a3, a4, a5⟩ := clean_all R hw (js.map (mk L)) js m hall hm ho
    have z : clean L js m = 0 := no_free R a2 fun i hi => by
      by_cases hiw : i < w
      · exact a4 i ((hjs i).mpr ⟨hiw, hi⟩)
      · exact Nat.testBit_lt_two_pow (Nat.lt_of_lt_of_le a1 (Nat.pow_le_pow_right (by decide) (by omega)))
    rw [z, Nat.zero_xor] at a3
    exact a3
theorem orth_span {vs L : List Nat} (h : ∀ x, InS L x ↔ InS vs x) (m : Nat) : Orth L m ↔ Orth vs m :=
  ⟨fun ho v hv => ins_dot ho ((h v).mpr (ins_mem hv)), fun ho v hv => ins_dot ho ((h v).mp (ins_mem hv))⟩
theorem rem_lt {rows : List Nat} (hw : ∀ r ∈ rows, r < 2 ^ w) : ∀ {v}, v < 2 ^ w → rem rows v < 2 ^ w := fun {v} hv => by
  induction rows generalizing v with
  | nil => exact hv
  | cons r rows ih =>
    refine ih (fun x hx => hw x (List.mem_cons_of_mem _ hx)) ?_
    show min v (v ^^^ r) < 2 ^ w
    rcases min_or v r with e | e <;> rw [e]
    · exact hv
    · exact Nat.xor_lt_two_pow hv (hw r (List.mem_cons_self ..))
theorem ins_lt {w : Nat} : ∀ {vs : List Nat}, (∀ v ∈ vs, v < 2 ^ w) → ∀ {x}, InS vs x → x < 2 ^ w
  | [], _, x, h => by
    have e : x = 0 := h
    rw [e]
    exact Nat.two_pow_pos w
  | v :: vs, hv, x, h => by
    have hv' := fun u hu => hv u (List.mem_cons_of_mem _ hu)
    rcases h with h | h
    · exact ins_lt hv' h
    · have h1 := Nat.xor_lt_two_pow (ins_lt hv' h) (hv v (List.mem_cons_self ..))
      rw [Nat.xor_assoc, Nat.xor_self, Nat.xor_zero] at h1
      exact h1
/-- what is orthogonal to all that is orthogonal is in the span -/
theorem orth_orth (R : Red L) (hw : ∀ r ∈ L, r < 2 ^ w) {A : List Nat} (hA : ∀ m, InS A m ↔ m < 2 ^ w ∧ Orth L m) {x : Nat} (hx : x < 2 ^ w) : Orth A x ↔ InS L x := by
  constructor
  · intro ho
    refine (rem_zero R x).mp (Classical.byContradiction fun n => ?_)
    obtain ⟨j, hj⟩ := Nat.exists_testBit_of_ne_zero n
    have hlt := rem_lt hw hx
    have hjw : j < w := Nat.lt_of_not_le fun c => by
      rw [Nat.testBit_lt_two_pow (Nat.lt_of_lt_of_le hlt (Nat.pow_le_pow_right (by decide) c))] at hj
      cases hj
    have hf : isFree L j := fun r hr e => by
      have := rem_clear (v := x) R r hr
      rw [e, hj] at this
      cases this
    have hm := (hA (mk L j)).mpr ⟨(mk_all R hw hjw hf 0).2.1, mk_orth R hw hjw hf⟩
    have e1 : dot (mk L j) (rem L x) = (dot (mk L j) (rem L x ^^^ x) + dot (mk L j) x) % 2 := by
      rw [← dot_xor_r, Nat.xor_assoc, Nat.xor_self, Nat.xor_zero]
    have e2 : dot (mk L j) x = 0 := ins_dot ho hm
    have e3 : dot (mk L j) (rem L x ^^^ x) = 0 := by
      rw [dot_comm]
      exact ins_dot (mk_orth R hw hjw hf) (rem_in L x)
    have e4 := (mk_all R hw hjw hf (rem L x)).1
    rw [dot_comm, e1, e2, e3] at e4
    have e5 : ((L.filter fun r => r.testBit j).map fun r => has (rem L x) r.log2).sum = 0 := by
      have : ∀ M : List Nat, (∀ r ∈ M, r ∈ L) → ((M.filter fun r => r.testBit j).map fun r => has (rem L x) r.log2).sum = 0 := by
        intro M
        induction M with
        | nil => intro _; rfl
        | cons u M ih =>
          intro hM
          have i1 := ih fun z hz => hM z (List.mem_cons_of_mem _ hz)
          rw [List.filter_cons]
          split
          · rw [List.map_cons, List.sum_cons, i1]
            unfold has
            rw [rem_clear R u (hM u (List.mem_cons_self ..))]
            rfl
          · exact i1
      exact this L fun _ h => h
    rw [e5] at e4
    unfold has at e4
    rw [hj] at e4
    simp at e4
  · intro hi a ha
    rw [dot_comm]
    exact ins_dot ((hA a).mp (ins_mem ha)).2 hi
end
end GF
set_option Elab.async false
set_option maxRecDepth 100000
/-! the elements of a span, one by one; the least of them -/
namespace GF
theorem xor_cancel (x v : Nat) : x ^^^ v ^^^ v = x := by rw [Nat.xor_assoc, Nat.xor_self, Nat.xor_zero]
theorem xor_cancel' (x v : Nat) : v ^^^ (v ^^^ x) = x := by rw [← Nat.xor_assoc, Nat.xor_self, Nat.zero_xor]
theorem ins_snoc {ws : List Nat} {v x : Nat} : InS (ws ++ [v]) x ↔ InS ws x ∨ InS ws (x ^^^ v) := by
  have p : (ws ++ [v]).Perm (v :: ws) := List.perm_append_comm
  exact span_perm p x
/-- a list of all elements -/
structure Els (s : List Nat) (ws : List Nat) : Prop where
  nd : s.Nodup
  iff : ∀ x, x ∈ s ↔ InS ws x
theorem els_0 : Els [0] [] := ⟨by simp, fun x => by rw [List.mem_singleton]; exact Iff.rfl⟩
theorem Els.old {s ws : List Nat} {v : Nat} (e : Els s ws) (h : InS ws v) : Els s (ws ++ [v]) := by
  refine ⟨e.nd, fun x => ?_⟩
  rw [e.iff, ins_snoc]
  refine ⟨.inl, fun q => q.elim id fun q => ?_⟩
  have := ins_xor q h
  rw [xor_cancel] at this
  exact this
theorem Els.new {s ws : List Nat} {v : Nat} (e : Els s ws) (h : ¬ InS ws v) : Els (s ++ s.map fun x => x ^^^ v) (ws ++ [v]) := by
  refine ⟨?_, fun x => ?_⟩
  · rw [List.nodup_append]
    refine ⟨e.nd, ?_, fun a ha b hb hab => ?_⟩
    · unfold List.Nodup
      rw [List.pairwise_map]
      refine e.nd.imp fun {a b} hab q => hab ?_
      rw [← xor_cancel a v, q, xor_cancel]
    · obtain ⟨c, hc, rfl⟩ := List.mem_map.mp hb
      subst hab
      have h1 := ins_xor ((e.iff c).mp hc) ((e.iff _).mp ha)
      rw [xor_cancel'] at h1
      exact h h1
  · rw [List.mem_append, ins_snoc, e.iff]
    refine or_congr Iff.rfl ⟨fun q => ?_, fun q => ?_⟩
    · obtain ⟨c, hc, rfl⟩ := List.mem_map.mp q
      rw [xor_cancel]
      exact (e.iff c).mp hc
    · exact List.mem_map.mpr ⟨x ^^^ v, (e.iff _).mpr q, xor_cancel x v⟩
theorem Els.perm {s t ws us : List Nat} (a : Els s ws) (b : Els t us) (h : ∀ x, InS ws x ↔ InS us x) : s.Perm t :=
  (List.perm_ext_iff_of_nodup a.nd b.nd).mpr fun x => by rw [a.iff, b.iff, h]
/-- a row is not in the span of the others -/
theorem red_take {rows : List Nat} (R : Red rows) {i r : Nat} (h : rows[i]? = some r) : ¬ InS (rows.take i) r := fun q => by
  have hi := (List.getElem?_eq_some_iff.mp h).1
  have hr : r ∈ rows := List.mem_of_getElem? h
  have hz : ∀ v ∈ rows.take i, v.testBit r.log2 = false := fun v hv => by
    have e : rows = rows.take i ++ r :: rows.drop (i + 1) := by
      conv => lhs; rw [← List.take_append_drop i rows]
      congr 1
      rw [List.drop_eq_getElem_cons hi]
      congr 1
      exact (List.getElem?_eq_some_iff.mp h).2
    have ap := R.ap
    rw [e, List.pairwise_append] at ap
    exact (ap.2.2 v hv r (List.mem_cons_self ..)).2
  have := ins_bit hz q
  rw [tb_log (R.pos r hr)] at this
  cases this
/-- sorted, with nothing twice: ascending -/
theorem asc {s L : List Nat} (p : L.Perm s) (nd : s.Nodup) (hs : L.Pairwise (· ≤ ·)) : L.Pairwise (· < ·) :=
  (hs.and (p.nodup_iff.mpr nd)).imp fun {a b} h => by
    have h2 : a ≠ b := h.2
    have h1 : a ≤ b := h.1
    omega
/-- all elements, ascending -/
structure All (E : List Nat) (ws : List Nat) : Prop where
  srt : E.Pairwise (· < ·)
  iff : ∀ x, x ∈ E ↔ InS ws x
theorem Els.all {s L ws : List Nat} (e : Els s ws) (p : L.Perm s) (hs : L.Pairwise (· ≤ ·)) : All L ws := ⟨asc p e.nd hs, fun x => by rw [p.mem_iff, e.iff]⟩
theorem All.eq {E F ws us : List Nat} (a : All E ws) (b : All F us) (h : ∀ x, InS ws x ↔ InS us x) : E = F := sorted_ext a.srt b.srt fun x => by rw [a.iff, b.iff, h]
theorem All.zero {E ws : List Nat} (a : All E ws) : ∃ F, E = 0 :: F ∧ F.Pairwise (· < ·) ∧ ∀ x, x ∈ F ↔ (x ≠ 0 ∧ InS ws x) := by
  have h0 : 0 ∈ E := (a.iff 0).mpr (ins_0 ws)
  have hs := a.srt
  have hi := a.iff
  cases E with
  | nil => cases h0
  | cons y F =>
    obtain ⟨h1, h2⟩ := List.pairwise_cons.mp hs
    have hy : y = 0 := by
      rcases List.mem_cons.mp h0 with e | e
      · exact e.symm
      · have := h1 0 e
        omega
    subst hy
    refine ⟨F, rfl, h2, fun x => ⟨fun hx => ⟨?_, (hi x).mp (List.mem_cons_of_mem _ hx)⟩, fun ⟨n, hx⟩ => ?_⟩⟩
    · have := h1 x hx
      omega
    · rcases List.mem_cons.mp ((hi x).mpr hx) with e | e
      · exact absurd e n
      · exact e
/-! ### the least ones, as they are found -/
theorem log_mono {a b : Nat} (ha : 0 < a) (h : a ≤ b) : a.log2 ≤ b.log2 := by
  refine Nat.le_of_not_lt fun c => ?_
  have h1 := Nat.log2_self_le (n := a) (by omega)
  have h2 := @Nat.lt_log2_self b
  have h3 := Nat.pow_le_pow_right (n := 2) (by decide) (show b.log2 + 1 ≤ a.log2 by omega)
  omega
structure Part (F : List Nat) (i : Nat) (C : List Nat) : Prop where
  srt : C.Pairwise (· < ·)
  lo : ∀ x ∈ C, x ∈ F.take i ∧ ∀ y ∈ F, y.log2 = x.log2 → x ≤ y
  ex : ∀ y ∈ F.take i, ∃ x ∈ C, x.log2 = y.log2
theorem part_0 (F : List Nat) : Part F 0 [] := ⟨List.Pairwise.nil, fun _ h => (by cases h), fun y h => (by rw [List.take_zero] at h; cases h)⟩
theorem take_mem {F : List Nat} {i e : Nat} (h : F[i]? = some e) {y : Nat} : y ∈ F.take (i + 1) ↔ y ∈ F.take i ∨ y = e := by
  rw [List.take_add_one, h, List.mem_append]
  show _ ∨ y ∈ [e] ↔ _
  rw [List.mem_singleton]
theorem part_no {F C : List Nat} {i e : Nat} (p : Part F i C) (h : F[i]? = some e) (q : ∃ x ∈ C, x.log2 = e.log2) : Part F (i + 1) C := by
  refine ⟨p.srt, fun x hx => ⟨(take_mem h).mpr (.inl (p.lo x hx).1), (p.lo x hx).2⟩, fun y hy => ?_⟩
  rcases (take_mem h).mp hy with z | rfl
  · exact p.ex y z
  · exact q
theorem take_lt {F : List Nat} (s : F.Pairwise (· < ·)) {i e y : Nat} (h : F[i]? = some e) (hy : y ∈ F.take i) : y < e := by
  obtain ⟨j, hj⟩ := List.getElem?_of_mem hy
  have hjl := (List.getElem?_eq_some_iff.mp hj).1
  rw [List.length_take] at hjl
  rw [List.getElem?_take_of_lt (by omega)] at hj
  obtain ⟨a, ha⟩ := List.getElem?_eq_some_iff.mp h
  obtain ⟨b, hb⟩ := List.getElem?_eq_some_iff.mp hj
  have := List.pairwise_iff_getElem.mp s j i b a (by omega)
  rw [ha, hb] at this
  exact this
theorem below {F : List Nat} (s : F.Pairwise (· < ·)) {i e y : Nat} (h : F[i]? = some e) (hy : y ∈ F) (c : y < e) : y ∈ F.take i := by
  obtain ⟨j, hj⟩ := List.getElem?_of_mem hy
  obtain ⟨a, ha⟩ := List.getElem?_eq_some_iff.mp h
  obtain ⟨b, hb⟩ := List.getElem?_eq_some_iff.mp hj
  have hij : j < i := Nat.lt_of_not_le fun z => by
    rcases Nat.lt_or_eq_of_le z with z | z
    · have := List.pairwise_iff_getElem.mp s i j a b z
      omega
    · subst z
      omega
  exact List.mem_of_getElem? (i := j) (by rw [List.getElem?_take_of_lt hij]; exact hj)
theorem part_new {F C : List Nat} {i e : Nat} (s : F.Pairwise (· < ·)) (p : Part F i C) (h : F[i]? = some e) (q : ∀ x ∈ C, x.log2 ≠ e.log2) : Part F (i + 1) (C ++ [e]) := by
  refine ⟨?_, fun x hx => ?_, fun y hy => ?_⟩
  · rw [List.pairwise_append]
    refine ⟨p.srt, List.pairwise_singleton .., fun a ha b hb => ?_⟩
    rw [List.mem_singleton.mp hb]
    exact take_lt s h (p.lo a ha).1
  · rcases List.mem_append.mp hx with hx | hx
    · exact ⟨(take_mem h).mpr (.inl (p.lo x hx).1), (p.lo x hx).2⟩
    · rw [List.mem_singleton.mp hx]
      refine ⟨(take_mem h).mpr (.inr rfl), fun y hy ey => Nat.le_of_not_lt fun c => ?_⟩
      obtain ⟨x, hx, ex⟩ := p.ex y (below s h hy c)
      exact q x hx (ex.trans ey)
  · rcases (take_mem h).mp hy with z | rfl
    · obtain ⟨x, hx, ex⟩ := p.ex y z
      exact ⟨x, List.mem_append_left _ hx, ex⟩
    · exact ⟨_, List.mem_append_right _ (List.mem_cons_self ..), rfl⟩
theorem part_can {F C ws : List Nat} (hF : ∀ x, x ∈ F ↔ (x ≠ 0 ∧ InS ws x)) (p : Part F F.length C) : Can (InS ws) C := by
  have lo := p.lo
  have ex := p.ex
  rw [List.take_length] at lo ex
  refine ⟨p.srt, fun x => ⟨fun hx => ?_, fun ⟨h0, hx, hl⟩ => ?_⟩⟩
  · obtain ⟨a, b⟩ := lo x hx
    obtain ⟨c, d⟩ := (hF x).mp a
    exact ⟨c, d, fun y hy h0 e => b y ((hF y).mpr ⟨h0, hy⟩) e⟩
  · obtain ⟨z, hz, ez⟩ := ex x ((hF x).mpr ⟨h0, hx⟩)
    obtain ⟨a, b⟩ := lo z hz
    obtain ⟨c, d⟩ := (hF z).mp a
    have h1 := hl z d c ez
    have h2 := b x ((hF x).mpr ⟨h0, hx⟩) ez.symm
    have e : x = z := Nat.le_antisymm h1 h2
    rw [e]
    exact hz
theorem part_logs {F C : List Nat} {i : Nat} (hF : ∀ x ∈ F, x ≠ 0) (p : Part F i C) : C.Pairwise fun a b => a.log2 < b.log2 := by
  refine List.Pairwise.imp_of_mem (fun {a b} ha hb h => ?_) p.srt
  have a0 := List.mem_of_mem_take (p.lo a ha).1
  have h1 := log_mono (Nat.pos_of_ne_zero (hF a a0)) (Nat.le_of_lt h)
  rcases Nat.lt_or_eq_of_le h1 with c | c
  · exact c
  · have := (p.lo b hb).2 a a0 c
    omega
theorem red_iff {rows : List Nat} (R : Red rows) (x : Nat) : x ∈ rows ↔ (x ≠ 0 ∧ InS rows x ∧ ∀ y, InS rows y → y ≠ 0 → y.log2 = x.log2 → x ≤ y) := by
  refine ⟨fun hx => ⟨R.pos x hx, ins_mem hx, fun y hy h0 e => least R hx hy e h0⟩, fun ⟨h0, hx, hl⟩ => ?_⟩
  obtain ⟨r, hr, e⟩ := lead R hx h0
  have h1 := hl r (ins_mem hr) (R.pos r hr) e
  have h2 := least R hr hx e.symm h0
  have e2 : x = r := Nat.le_antisymm h1 h2
  rw [e2]
  exact hr
theorem red_same {L M : List Nat} (RL : Red L) (RM : Red M) (h : ∀ x, InS L x ↔ InS M x) : L.Perm M := by
  refine (List.perm_ext_iff_of_nodup (red_nodup RL) (red_nodup RM)).mpr fun x => ?_
  rw [red_iff RL, red_iff RM, h]
  exact ⟨fun ⟨a, b, c⟩ => ⟨a, b, fun y q => c y ((h y).mpr q)⟩, fun ⟨a, b, c⟩ => ⟨a, b, fun y q => c y ((h y).mp q)⟩⟩
end GF
set_option Elab.async false
set_option maxRecDepth 100000
/-! how many there are -/
namespace GF
/-- none is in the span of those ahead of it -/
def Indep (ws : List Nat) : Prop := ∀ i r, ws[i]? = some r → ¬ InS (ws.take i) r
theorem indep_take {ws : List Nat} (h : Indep ws) : ∀ i, i ≤ ws.length → ∃ s, Els s (ws.take i) ∧ s.length = 2 ^ i
  | 0, _ => ⟨[0], els_0, rfl⟩
  | i + 1, hi => by
    obtain ⟨s, e, l⟩ := indep_take h i (by omega)
    have hx : ws[i]? = some ws[i] := List.getElem?_eq_getElem (by omega)
    refine ⟨s ++ s.map (fun x => x ^^^ ws[i]), ?_, ?_⟩
    · rw [List.take_add_one, hx]
      exact e.new (h i _ hx)
    · rw [List.length_append, List.length_map, l, Nat.pow_succ]
      omega
theorem indep_els {ws : List Nat} (h : Indep ws) : ∃ s, Els s ws ∧ s.length = 2 ^ ws.length := by
  obtain ⟨s, e, l⟩ := indep_take h ws.length (Nat.le_refl _)
  rw [List.take_length] at e
  exact ⟨s, e, l⟩
theorem indep_len {a b : List Nat} (ha : Indep a) (hb : Indep b) (h : ∀ x, InS a x ↔ InS b x) : a.length = b.length := by
  obtain ⟨s, e, l⟩ := indep_els ha
  obtain ⟨t, f, m⟩ := indep_els hb
  have := (e.perm f h).length_eq
  rw [l, m] at this
  have e2 := congrArg Nat.log2 this
  rw [Nat.log2_two_pow, Nat.log2_two_pow] at e2
  exact e2
theorem red_indep {L : List Nat} (R : Red L) : Indep L := fun _ _ h => red_take R h
theorem mks_indep {L : List Nat} {w : Nat} (R : Red L) (hw : ∀ r ∈ L, r < 2 ^ w) {js : List Nat} (nd : js.Nodup) (hjs : ∀ j, j ∈ js ↔ j < w ∧ isFree L j) : Indep (js.map (mk L)) := fun i r h q => by
  rw [List.getElem?_map] at h
  cases e : js[i]? with
  | none =>
    rw [e] at h
    cases h
  | some j =>
    rw [e] at h
    cases h
    obtain ⟨hj, hf⟩ := (hjs j).mp (List.mem_of_getElem? e)
    have hb := (mk_all R hw hj hf 0).2.2 j hf
    rw [decide_eq_true rfl] at hb
    have hz : ∀ v ∈ (js.map (mk L)).take i, v.testBit j = false := fun v hv => by
      rw [← List.map_take] at hv
      obtain ⟨k, hk, rfl⟩ := List.mem_map.mp hv
      obtain ⟨k1, k2⟩ := (hjs k).mp (List.mem_of_mem_take hk)
      rw [(mk_all R hw k1 k2 0).2.2 j hf]
      refine decide_eq_false fun z => ?_
      subst z
      obtain ⟨m, hm⟩ := List.getElem?_of_mem hk
      have hml := (List.getElem?_eq_some_iff.mp hm).1
      rw [List.length_take] at hml
      rw [List.getElem?_take_of_lt (by omega)] at hm
      obtain ⟨a, ha⟩ := List.getElem?_eq_some_iff.mp e
      obtain ⟨b, hb⟩ := List.getElem?_eq_some_iff.mp hm
      have := List.pairwise_iff_getElem.mp nd m i b a (by omega)
      exact this (hb.trans ha.symm)
    rw [ins_bit hz q] at hb
    cases hb
theorem free_count {L : List Nat} {w : Nat} (R : Red L) (hw : ∀ r ∈ L, r < 2 ^ w) {js : List Nat} (nd : js.Nodup) (hjs : ∀ j, j ∈ js ↔ j < w ∧ isFree L j) : js.length + L.length = w := by
  have p : (js ++ L.map Nat.log2).Perm (List.range w) := by
    refine (List.perm_ext_iff_of_nodup ?_ List.nodup_range).mpr fun j => ?_
    · rw [List.nodup_append]
      refine ⟨nd, red_logs R, fun a ha b hb z => ?_⟩
      subst z
      obtain ⟨r, hr, e⟩ := List.mem_map.mp hb
      exact ((hjs a).mp ha).2 r hr e
    · rw [List.mem_append, List.mem_range, hjs]
      constructor
      · rintro (h | h)
        · exact h.1
        · obtain ⟨r, hr, e⟩ := List.mem_map.mp h
          rw [← e]
          exact (Nat.log2_lt (R.pos r hr)).mpr (hw r hr)
      · intro h
        by_cases f : isFree L j
        · exact .inl ⟨h, f⟩
        · refine .inr (Classical.byContradiction fun n => f fun r hr e => n (List.mem_map.mpr ⟨r, hr, e⟩))
  have := p.length_eq
  rw [List.length_append, List.length_map, List.length_range] at this
  exact this
/-- a space and what is orthogonal to it make up the width -/
theorem dims {L A : List Nat} {w : Nat} (R : Red L) (hw : ∀ r ∈ L, r < 2 ^ w) (RA : Red A) (hA : ∀ m, InS A m ↔ m < 2 ^ w ∧ Orth L m) : A.length + L.length = w := by
  have dec : ∀ j, Decidable (isFree L j) := fun j => Classical.propDecidable _
  let js := (List.range w).filter fun j => @decide (isFree L j) (dec j)
  have nd : js.Nodup := List.nodup_range.sublist List.filter_sublist
  have hjs : ∀ j, j ∈ js ↔ j < w ∧ isFree L j := fun j => by
    show j ∈ List.filter _ _ ↔ _
    rw [List.mem_filter, List.mem_range, decide_eq_true_iff]
  have e : A.length = (js.map (mk L)).length := indep_len (red_indep RA) (mks_indep R hw nd hjs) fun x => (hA x).trans (masks_span R hw hjs x).symm
  rw [e, List.length_map]
  exact free_count R hw nd hjs
/-- the number of all elements tells the dimension -/
theorem all_len {E vv : List Nat} (a : All E vv) : E.length = 2 ^ (red0 vv).length := by
  obtain ⟨s, e, l⟩ := indep_els (red_indep (red0_red vv))
  have e2 : Els E vv := ⟨a.srt.imp fun {x y} h => Nat.ne_of_lt h, a.iff⟩
  rw [← l]
  exact (e2.perm e fun x => (red0_span vv x).symm).length_eq
end GF
set_option Elab.async false
set_option maxRecDepth 100000
/-! banks as numbers: linear; as many as the rank tells -/
namespace GF
def bk : List Nat → Nat → Nat
  | [], _ => 0
  | v :: vv, a => dot a v + 2 * bk vv a
theorem dot_lt (a v : Nat) : dot a v < 2 := par_lt _
theorem bk_lt : ∀ (vv : List Nat) (a : Nat), bk vv a < 2 ^ vv.length
  | [], _ => Nat.one_pos
  | v :: vv, a => by
    have h1 := bk_lt vv a
    have h2 := dot_lt a v
    rw [List.length_cons, Nat.pow_succ]
    show dot a v + 2 * bk vv a < _
    omega
theorem bk_0 : ∀ (vv : List Nat) (a : Nat), bk vv a = 0 ↔ Orth vv a
  | [], _ => ⟨fun _ v h => (by cases h), fun _ => rfl⟩
  | v :: vv, a => by
    have ih := bk_0 vv a
    constructor
    · intro h u hu
      have h1 : dot a v + 2 * bk vv a = 0 := h
      rcases List.mem_cons.mp hu with rfl | hu
      · rw [dot_comm]
        omega
      · exact ih.mp (by omega) u hu
    · intro h
      have h1 := h v (List.mem_cons_self ..)
      have h2 := ih.mpr fun u hu => h u (List.mem_cons_of_mem _ hu)
      rw [dot_comm] at h1
      show dot a v + 2 * bk vv a = 0
      omega
theorem xor_digit {a b p q : Nat} (ha : a < 2) (hb : b < 2) : (a + 2 * p) ^^^ (b + 2 * q) = (a + b) % 2 + 2 * (p ^^^ q) := by
  have h1 := @Nat.xor_div_two (a + 2 * p) (b + 2 * q)
  have h2 := @Nat.xor_mod_two_eq_one (a + 2 * p) (b + 2 * q)
  rw [show (a + 2 * p) / 2 = p by omega, show (b + 2 * q) / 2 = q by omega] at h1
  omega
theorem bk_xor : ∀ (vv : List Nat) (a b : Nat), bk vv (a ^^^ b) = bk vv a ^^^ bk vv b
  | [], _, _ => (Nat.xor_self 0).symm
  | v :: vv, a, b => by
    show dot (a ^^^ b) v + 2 * bk vv (a ^^^ b) = (dot a v + 2 * bk vv a) ^^^ (dot b v + 2 * bk vv b)
    rw [xor_digit (dot_lt a v) (dot_lt b v), dot_xor_l, bk_xor vv a b]
theorem bk_zero (vv : List Nat) : bk vv 0 = 0 := (bk_0 vv 0).mpr fun v _ => dot_0 v
theorem img_to {vv : List Nat} : ∀ {xs : List Nat} {y : Nat}, InS (xs.map (bk vv)) y → ∃ x, InS xs x ∧ bk vv x = y
  | [], y, h => ⟨0, rfl, (bk_zero vv).trans (show y = 0 from h).symm⟩
  | x0 :: xs, y, h => by
    rcases h with h | h
    · obtain ⟨x, h1, h2⟩ := img_to h
      exact ⟨x, .inl h1, h2⟩
    · obtain ⟨x, h1, h2⟩ := img_to h
      refine ⟨x ^^^ x0, .inr (by rw [xor_cancel]; exact h1), ?_⟩
      rw [bk_xor, h2, xor_cancel]
theorem img_of {vv : List Nat} : ∀ {xs : List Nat} {x : Nat}, InS xs x → InS (xs.map (bk vv)) (bk vv x)
  | [], x, h => by
    have e : x = 0 := h
    rw [e]
    exact bk_zero vv
  | x0 :: xs, x, h => by
    rcases h with h | h
    · exact .inl (img_of h)
    · have := img_of (vv := vv) h
      rw [bk_xor] at this
      exact .inr this
theorem pow_bit (j i : Nat) : (2 ^ j).testBit i = decide (j = i) := Nat.testBit_two_pow
theorem bits_in : ∀ (js : List Nat) (x : Nat), (∀ i, x.testBit i = true → i ∈ js) → InS (js.map (2 ^ ·)) x
  | [], x, h => by
    show x = 0
    refine Nat.eq_of_testBit_eq fun i => ?_
    rw [Nat.zero_testBit]
    cases e : x.testBit i with
    | false => rfl
    | true => cases h i e
  | j :: js, x, h => by
    by_cases hj : x.testBit j = true
    · refine .inr (bits_in js _ fun i hi => ?_)
      rw [Nat.testBit_xor, pow_bit] at hi
      by_cases e : j = i
      · subst e
        rw [hj, decide_eq_true rfl] at hi
        cases hi
      · rw [decide_eq_false e, Bool.xor_false] at hi
        rcases List.mem_cons.mp (h i hi) with z | z
        · exact absurd z.symm e
        · exact z
    · refine .inl (bits_in js _ fun i hi => ?_)
      rcases List.mem_cons.mp (h i hi) with z | z
      · rw [z] at hi
        exact absurd hi hj
      · exact z
theorem bits_out {js : List Nat} {x i : Nat} (h : InS (js.map (2 ^ ·)) x) (hi : x.testBit i = true) : i ∈ js := Classical.byContradiction fun n => by
  have z : ∀ v ∈ js.map (2 ^ ·), v.testBit i = false := fun v hv => by
    obtain ⟨j, hj, rfl⟩ := List.mem_map.mp hv
    show (2 ^ j).testBit i = false
    rw [pow_bit]
    exact decide_eq_false fun e => n (e ▸ hj)
  rw [ins_bit z h] at hi
  cases hi
theorem bit_lt {x w i : Nat} (h : x < 2 ^ w) (hi : x.testBit i = true) : i < w := Nat.lt_of_not_le fun c => by
  rw [Nat.testBit_lt_two_pow (Nat.lt_of_lt_of_le h (Nat.pow_le_pow_right (by decide) c))] at hi
  cases hi
/-- the banks of the powers of two -/
def cols (vv : List Nat) (w : Nat) : List Nat := ((List.range w).map (2 ^ ·)).map (bk vv)
theorem pows_lt {js : List Nat} {w x : Nat} (hj : ∀ j ∈ js, j < w) (h : InS (js.map (2 ^ ·)) x) : x < 2 ^ w := ins_lt (fun v hv => by
  obtain ⟨j, h1, rfl⟩ := List.mem_map.mp hv
  exact Nat.pow_lt_pow_right (by decide) (hj j h1)) h
theorem cols_iff (vv : List Nat) (w y : Nat) : InS (cols vv w) y ↔ ∃ x, x < 2 ^ w ∧ bk vv x = y := by
  constructor
  · intro h
    obtain ⟨x, h1, h2⟩ := img_to h
    exact ⟨x, pows_lt (fun j hj => List.mem_range.mp hj) h1, h2⟩
  · rintro ⟨x, h1, rfl⟩
    exact img_of (bits_in _ _ fun i hi => List.mem_range.mpr (bit_lt h1 hi))
section
variable {vv A js : List Nat} {w : Nat}
theorem part_indep (RA : Red A) (hA : ∀ m, InS A m ↔ m < 2 ^ w ∧ Orth vv m) (nd : js.Nodup) (hjs : ∀ j, j ∈ js ↔ j < w ∧ isFree A j) : Indep ((js.map (2 ^ ·)).map (bk vv)) := fun i r h q => by
  rw [List.getElem?_map, List.getElem?_map] at h
  cases e : js[i]? with
  | none =>
    rw [e] at h
    cases h
  | some j =>
    rw [e] at h
    cases h
    rw [← List.map_take, ← List.map_take] at q
    obtain ⟨x, h1, h2⟩ := img_to q
    have hj := (hjs j).mp (List.mem_of_getElem? e)
    have sub : ∀ k ∈ js.take i, k ∈ js := fun k hk => List.mem_of_mem_take hk
    have nj : j ∉ js.take i := fun hk => by
      obtain ⟨m, hm⟩ := List.getElem?_of_mem hk
      have hml := (List.getElem?_eq_some_iff.mp hm).1
      rw [List.length_take] at hml
      rw [List.getElem?_take_of_lt (by omega)] at hm
      obtain ⟨a, ha⟩ := List.getElem?_eq_some_iff.mp e
      obtain ⟨b, hb⟩ := List.getElem?_eq_some_iff.mp hm
      exact List.pairwise_iff_getElem.mp nd m i b a (by omega) (hb.trans ha.symm)
    have xj : x.testBit j = false := by
      cases z : x.testBit j with
      | false => rfl
      | true => exact absurd (bits_out h1 z) nj
    have zj : (x ^^^ 2 ^ j).testBit j = true := by rw [Nat.testBit_xor, xj, pow_bit, decide_eq_true rfl]; rfl
    have z0 : x ^^^ 2 ^ j ≠ 0 := fun z => by
      rw [z, Nat.zero_testBit] at zj
      cases zj
    have zin : InS A (x ^^^ 2 ^ j) := (hA _).mpr ⟨Nat.xor_lt_two_pow (pows_lt (fun k hk => ((hjs k).mp (sub k hk)).1) h1) (Nat.pow_lt_pow_right (by decide) hj.1), (bk_0 vv _).mp (by rw [bk_xor, h2, Nat.xor_self])⟩
    obtain ⟨u, hu, eu⟩ := lead RA zin z0
    have hb := tb_log z0
    have hin : (x ^^^ 2 ^ j).log2 ∈ js := by
      by_cases c : j = (x ^^^ 2 ^ j).log2
      · rw [← c]
        exact List.mem_of_getElem? e
      · have hb' := hb
        rw [Nat.testBit_xor, pow_bit, decide_eq_false c, Bool.xor_false] at hb'
        exact sub _ (bits_out h1 hb')
    exact ((hjs _).mp hin).2 u hu eu
theorem part_span (RA : Red A) (hAw : ∀ r ∈ A, r < 2 ^ w) (hA : ∀ m, InS A m ↔ m < 2 ^ w ∧ Orth vv m) (hjs : ∀ j, j ∈ js ↔ j < w ∧ isFree A j) (y : Nat) : InS ((js.map (2 ^ ·)).map (bk vv)) y ↔ InS (cols vv w) y := by
  rw [cols_iff]
  constructor
  · intro h
    obtain ⟨x, h1, h2⟩ := img_to h
    exact ⟨x, pows_lt (fun j hj => ((hjs j).mp hj).1) h1, h2⟩
  · rintro ⟨x, hx, rfl⟩
    have h1 := ((hA _).mp (rem_in A x)).2
    have h2 := (bk_0 vv _).mpr h1
    rw [bk_xor] at h2
    have e : bk vv (rem A x) = bk vv x := Classical.byContradiction fun n => ne_bit n h2
    rw [← e]
    refine img_of (bits_in _ _ fun i hi => (hjs i).mpr ⟨bit_lt (rem_lt hAw hx) hi, fun r hr z => ?_⟩)
    have := rem_clear (v := x) RA r hr
    rw [z, hi] at this
    cases this
end
/-- the banks of the powers of two have the rank of the masks -/
theorem cols_rank {vv : List Nat} {w : Nat} (hv : ∀ v ∈ vv, v < 2 ^ w) : (red0 (cols vv w)).length = (red0 vv).length := by
  have free : ∀ L : List Nat, ∃ js : List Nat, js.Nodup ∧ ∀ j, j ∈ js ↔ j < w ∧ isFree L j := fun L => by
    have dec : ∀ j, Decidable (isFree L j) := fun j => Classical.propDecidable _
    refine ⟨(List.range w).filter fun j => @decide (isFree L j) (dec j), List.nodup_range.sublist List.filter_sublist, fun j => ?_⟩
    rw [List.mem_filter, List.mem_range, decide_eq_true_iff]
  have RL := red0_red vv
  have hL : ∀ r ∈ red0 vv, r < 2 ^ w := fun r hr => ins_lt hv ((red0_span vv r).mp (ins_mem hr))
  obtain ⟨ks, _, hks⟩ := free (red0 vv)
  have RA := red0_red (ks.map (mk (red0 vv)))
  have hA : ∀ m, InS (red0 (ks.map (mk (red0 vv)))) m ↔ m < 2 ^ w ∧ Orth vv m := fun m => by rw [red0_span, masks_span RL hL hks, orth_span (red0_span vv)]
  generalize red0 (ks.map (mk (red0 vv))) = A at RA hA
  have hAw : ∀ r ∈ A, r < 2 ^ w := fun r hr => ((hA r).mp (ins_mem hr)).1
  obtain ⟨js, nd, hjs⟩ := free A
  have l1 := free_count RA hAw nd hjs
  have l2 := dims RL hL RA fun m => by rw [hA, orth_span (red0_span vv)]
  have l3 := indep_len (red_indep (red0_red (cols vv w))) (part_indep RA hA nd hjs) fun x => (red0_span _ x).trans (part_span RA hAw hA hjs x).symm
  rw [l3, List.length_map, List.length_map]
  omega
end GF
set_option Elab.async false
set_option maxRecDepth 100000
set_option maxHeartbeats 4000000
/-! independent lists made longer, completed by powers of two -/
namespace GF
theorem indep_nil : Indep [] := fun i r h => by simp at h
theorem red0_len_le : ∀ (vs : List Nat), (red0 vs).length ≤ vs.length := fun vs => by
  have step_le : ∀ (rows : List Nat) (v : Nat), (step rows v).length ≤ rows.length + 1 := fun rows v => by
    unfold step
    split
    · rw [List.length_append, List.length_map]
      exact Nat.le_refl _
    · omega
  have gen : ∀ (vs rows : List Nat), (vs.foldl step rows).length ≤ rows.length + vs.length := by
    intro vs
    induction vs with
    | nil => intro rows; exact Nat.le_refl _
    | cons v vs ih =>
      intro rows
      have h1 := ih (step rows v)
      have h2 := step_le rows v
      rw [List.foldl_cons, List.length_cons]
      omega
  have := gen vs []
  rw [List.length_nil, Nat.zero_add] at this
  exact this
theorem indep_red {vs : List Nat} (h : Indep vs) : (red0 vs).length = vs.length :=
  indep_len (red_indep (red0_red vs)) h fun x => red0_span vs x
theorem indep_iff (vs : List Nat) : (red0 vs).length = vs.length ↔ Indep vs := by
  refine ⟨fun e i r hi hin => ?_, indep_red⟩
  have hl := (List.getElem?_eq_some_iff.mp hi).1
  have hmem : ∀ v ∈ vs, InS (vs.take i ++ vs.drop (i + 1)) v := fun v hv => by
    have e2 : vs = vs.take i ++ (r :: vs.drop (i + 1)) := by
      have e3 : vs.drop i = r :: vs.drop (i + 1) := by
        rw [List.drop_eq_getElem_cons hl]
        congr 1
        exact (List.getElem?_eq_some_iff.mp hi).2
      rw [← e3, List.take_append_drop]
    rw [e2] at hv
    rcases List.mem_append.mp hv with hv | hv
    · exact ins_mem (List.mem_append_left _ hv)
    · rcases List.mem_cons.mp hv with hv | hv
      · rw [hv]
        exact ins_le (fun y hy => ins_mem (List.mem_append_left _ hy)) hin
      · exact ins_mem (List.mem_append_right _ hv)
  have sub : ∀ x, InS (vs.take i ++ vs.drop (i + 1)) x ↔ InS vs x := fun x =>
    ⟨fun h => ins_le (fun y hy => ins_mem (by
      rcases List.mem_append.mp hy with hy | hy
      · exact List.mem_of_mem_take hy
      · exact List.mem_of_mem_drop hy)) h, fun h => ins_le hmem h⟩
  have el : (red0 vs).length = (red0 (vs.take i ++ vs.drop (i + 1))).length := indep_len (red_indep (red0_red _)) (red_indep (red0_red _)) fun x => (red0_span _ x).trans ((sub x).symm.trans (red0_span _ x).symm)
  have := red0_len_le (vs.take i ++ vs.drop (i + 1))
  rw [List.length_append, List.length_take, List.length_drop] at this
  omega
theorem indep_snoc {vs : List Nat} {p : Nat} (h : Indep vs) : Indep (vs ++ [p]) ↔ ¬ InS vs p := by
  constructor
  · intro h2 hin
    refine h2 vs.length p ?_ ?_
    · rw [List.getElem?_append_right (Nat.le_refl _), Nat.sub_self]
      rfl
    · rw [List.take_left']
      · exact hin
      · rfl
  · intro hn i r hi hin
    by_cases c : i < vs.length
    · rw [List.getElem?_append_left c] at hi
      rw [List.take_append_of_le_length (Nat.le_of_lt c)] at hin
      exact h i r hi hin
    · have hl := (List.getElem?_eq_some_iff.mp hi).1
      rw [List.length_append, List.length_singleton] at hl
      have e : i = vs.length := by omega
      subst e
      rw [List.getElem?_append_right (Nat.le_refl _), Nat.sub_self] at hi
      cases hi
      rw [List.take_left' rfl] at hin
      exact hn hin
theorem indep_prefix {vs : List Nat} (h : Indep vs) (k : Nat) : Indep (vs.take k) := fun i r hi hin => by
  have hl := (List.getElem?_eq_some_iff.mp hi).1
  rw [List.length_take] at hl
  rw [List.getElem?_take] at hi
  split at hi
  · rw [List.take_take] at hin
    rw [show min i k = i by omega] at hin
    exact h i r hi hin
  · cases hi
/-- the powers of two that are not in the span of what is ahead, behind it -/
def compS (r : List Nat) (i : Nat) : List Nat := if (red0 (r ++ [2 ^ i])).length = (r ++ [2 ^ i]).length then r ++ [2 ^ i] else r
def comp (vv : List Nat) (n : Nat) : List Nat := (List.range n).foldl compS vv
theorem comp_0 (vv : List Nat) : comp vv 0 = vv := rfl
theorem comp_next (vv : List Nat) (n : Nat) : comp vv (n + 1) = compS (comp vv n) n := by
  unfold comp
  rw [List.range_succ, List.foldl_append]
  rfl
/-- what stands behind -/
structure Comp (vv : List Nat) (n : Nat) (r : List Nat) : Prop where
  ind : Indep r
  app : ∃ ps : List Nat, r = vv ++ ps ∧ ps.Pairwise (· < ·) ∧ ∀ x ∈ ps, ∃ j, j < n ∧ x = 2 ^ j
  has : ∀ j, j < n → InS r (2 ^ j)
theorem comp_is {vv : List Nat} (h : Indep vv) : ∀ n, Comp vv n (comp vv n)
  | 0 => ⟨h, ⟨[], (List.append_nil _).symm, List.Pairwise.nil, fun x hx => (by cases hx)⟩, fun j hj => absurd hj (Nat.not_lt_zero j)⟩
  | n + 1 => by
    obtain ⟨hi, ⟨ps, e, srt, hm⟩, hh⟩ := comp_is h n
    rw [comp_next]
    unfold compS
    by_cases c : (red0 (comp vv n ++ [2 ^ n])).length = (comp vv n ++ [2 ^ n]).length
    · rw [if_pos c]
      refine ⟨(indep_iff _).mp c, ⟨ps ++ [2 ^ n], by rw [← List.append_assoc, ← e], ?_, fun x hx => ?_⟩, fun j hj => ?_⟩
      · refine List.pairwise_append.mpr ⟨srt, List.pairwise_singleton _ _, fun a ha b hb => ?_⟩
        obtain ⟨j, hj, rfl⟩ := hm a ha
        rw [List.mem_singleton.mp hb]
        exact Nat.pow_lt_pow_right (by decide) hj
      · rcases List.mem_append.mp hx with hx | hx
        · obtain ⟨j, hj, e⟩ := hm x hx
          exact ⟨j, by omega, e⟩
        · exact ⟨n, by omega, List.mem_singleton.mp hx⟩
      · by_cases hn : j = n
        · rw [hn]
          exact ins_mem (List.mem_append_right _ (List.mem_singleton.mpr rfl))
        · exact ins_le (fun y hy => ins_mem (List.mem_append_left _ hy)) (hh j (by omega))
    · rw [if_neg c]
      refine ⟨hi, ⟨ps, e, srt, fun x hx => ?_⟩, fun j hj => ?_⟩
      · obtain ⟨j, hj, e⟩ := hm x hx
        exact ⟨j, by omega, e⟩
      · by_cases hn : j = n
        · rw [hn]
          exact Classical.byContradiction fun z => c ((indep_iff _).mpr ((indep_snoc hi).mpr z))
        · exact hh j (by omega)
theorem comp_yes {vv : List Nat} (h : Indep vv) (n : Nat) (c : InS (comp vv n) (2 ^ n)) : comp vv (n + 1) = comp vv n := by
  rw [comp_next]
  unfold compS
  exact if_neg fun z => (indep_snoc (comp_is h n).ind).mp ((indep_iff _).mp z) c
theorem comp_no {vv : List Nat} (h : Indep vv) (n : Nat) (c : ¬ InS (comp vv n) (2 ^ n)) : comp vv (n + 1) = comp vv n ++ [2 ^ n] := by
  rw [comp_next]
  unfold compS
  exact if_pos ((indep_iff _).mpr ((indep_snoc (comp_is h n).ind).mpr c))
theorem powers_indep (w : Nat) : Indep ((List.range w).map (2 ^ ·)) := fun i r hi hin => by
  have hl := (List.getElem?_eq_some_iff.mp hi).1
  rw [List.length_map, List.length_range] at hl
  rw [List.getElem?_map, List.getElem?_range hl] at hi
  cases hi
  have e : ((List.range w).map (2 ^ ·)).take i = (List.range i).map (2 ^ ·) := by
    rw [← List.map_take, List.take_range, show min i w = i by omega]
  rw [e] at hin
  have := pows_lt (w := i) (fun j hj => List.mem_range.mp hj) hin
  exact Nat.lt_irrefl _ this
theorem powers_all {w x : Nat} (h : x < 2 ^ w) : InS ((List.range w).map (2 ^ ·)) x := bits_in _ x fun _ hi => List.mem_range.mpr (bit_lt h hi)
theorem comp_span {vv : List Nat} {w : Nat} (h : Indep vv) (hv : ∀ v ∈ vv, v < 2 ^ w) (x : Nat) : InS (comp vv w) x ↔ x < 2 ^ w := by
  obtain ⟨hi, ⟨ps, e, srt, hm⟩, hh⟩ := comp_is h w
  have lt : ∀ v ∈ comp vv w, v < 2 ^ w := fun v hx => by
    rw [e] at hx
    rcases List.mem_append.mp hx with hx | hx
    · exact hv v hx
    · obtain ⟨j, hj, rfl⟩ := hm v hx
      exact Nat.pow_lt_pow_right (by decide) hj
  refine ⟨fun q => ins_lt lt q, fun q => ?_⟩
  refine ins_le (fun y hy => ?_) (powers_all q)
  obtain ⟨j, hj, rfl⟩ := List.mem_map.mp hy
  exact hh j (List.mem_range.mp hj)
theorem comp_len {vv : List Nat} {w : Nat} (h : Indep vv) (hv : ∀ v ∈ vv, v < 2 ^ w) : (comp vv w).length = w := by
  have e := indep_len (comp_is h w).ind (powers_indep w) fun x => (comp_span h hv x).trans ⟨fun q => powers_all q, fun q => pows_lt (fun j hj => List.mem_range.mp hj) q⟩
  rw [e, List.length_map, List.length_range]
theorem comp_lt {vv : List Nat} {w : Nat} (h : Indep vv) (hv : ∀ v ∈ vv, v < 2 ^ w) : ∀ v ∈ comp vv w, v < 2 ^ w := fun v hm => (comp_span h hv v).mp (ins_mem hm)
/-- as many masks as the width that span all: no two addresses share a bank -/
theorem bk_inj {r : List Nat} {w : Nat} (hs : ∀ x, x < 2 ^ w → InS r x) {a b : Nat} (ha : a < 2 ^ w) (hb : b < 2 ^ w) (e : bk r a = bk r b) : a = b := by
  have z : bk r (a ^^^ b) = 0 := by rw [bk_xor, e, Nat.xor_self]
  have o := (bk_0 r _).mp z
  have hx : a ^^^ b = 0 := by
    refine Nat.eq_of_testBit_eq fun i => ?_
    rw [Nat.zero_testBit]
    cases c : (a ^^^ b).testBit i with
    | false => rfl
    | true =>
      have hlt : a ^^^ b < 2 ^ w := Nat.xor_lt_two_pow ha hb
      have hi := bit_lt hlt c
      have h1 : InS r (2 ^ i) := hs _ (Nat.pow_lt_pow_right (by decide) hi)
      have h2 := ins_dot o h1
      rw [dot_comm, dot_pow] at h2
      unfold has at h2
      rw [if_pos c] at h2
      cases h2
  exact Classical.byContradiction fun n => ne_bit n hx
/-- numbers below n, all different, as many as n: in order they are all of them -/
theorem all_have : ∀ (n : Nat) (L : List Nat), L.Nodup → L.length = n → (∀ x ∈ L, x < n) → ∀ y, y < n → y ∈ L
  | 0, _, _, _, _, y, hy => absurd hy (Nat.not_lt_zero y)
  | n + 1, L, nd, hl, hb, y, hy => by
    by_cases c : n ∈ L
    · by_cases e : y = n
      · rw [e]
        exact c
      · have h1 : (L.erase n).Nodup := nd.erase n
        have h2 : (L.erase n).length = n := by rw [List.length_erase_of_mem c, hl]; rfl
        have h3 : ∀ x ∈ L.erase n, x < n := fun x hx => by
          have := (List.Nodup.mem_erase_iff nd).mp hx
          have := hb x this.2
          omega
        exact List.mem_of_mem_erase (all_have n _ h1 h2 h3 y (by omega))
    · exfalso
      cases L with
      | nil => simp at hl
      | cons a L' =>
        obtain ⟨h1, h2⟩ := List.nodup_cons.mp nd
        have hlt : ∀ x ∈ a :: L', x < n := fun x hx => by
          have := hb x hx
          have : x ≠ n := fun z => c (z ▸ hx)
          omega
        exact h1 (all_have n L' h2 (by simpa using hl) (fun x hx => hlt x (List.mem_cons_of_mem _ hx)) a (hlt a (List.mem_cons_self ..)))
theorem all_below {L : List Nat} {n : Nat} (nd : L.Nodup) (hl : L.length = n) (hb : ∀ x ∈ L, x < n) : L.Perm (List.range n) :=
  (List.perm_ext_iff_of_nodup nd List.nodup_range).mpr fun x => ⟨fun h => List.mem_range.mpr (hb x h), fun h => all_have n L nd hl hb x (List.mem_range.mp h)⟩
theorem places_all {r : List Nat} {w : Nat} (hs : ∀ x, x < 2 ^ w → InS r x) (hl : r.length = w) : ((List.range (2 ^ w)).map (bk r)).Perm (List.range (2 ^ w)) := by
  refine all_below ?_ ?_ ?_
  · rw [List.nodup_iff_pairwise_ne, List.pairwise_map]
    exact List.nodup_range.imp_of_mem fun {a b} ha hb n z => n (bk_inj hs (List.mem_range.mp ha) (List.mem_range.mp hb) z)
  · rw [List.length_map, List.length_range]
  · intro x hx
    obtain ⟨a, _, rfl⟩ := List.mem_map.mp hx
    have := bk_lt r a
    rw [hl] at this
    exact this
end GF
set_option Elab.async false
set_option maxRecDepth 100000
set_option maxHeartbeats 4000000
/-! rows of different highest bits -/
namespace GF
theorem log_xor {a b : Nat} (hb : b ≠ 0) (h : a.log2 < b.log2) : a ^^^ b ≠ 0 ∧ (a ^^^ b).log2 = b.log2 := by
  refine log_of ?_ fun j hj => ?_
  · rw [Nat.testBit_xor, tb_above h, tb_log hb]
    rfl
  · rw [Nat.testBit_xor, tb_above (Nat.lt_trans h hj), tb_above hj]
    rfl
theorem logs_lead : ∀ {C : List Nat}, (C.map Nat.log2).Nodup → (∀ c ∈ C, c ≠ 0) → ∀ {x}, InS C x → x ≠ 0 → ∃ c ∈ C, c.log2 = x.log2
  | [], _, _, x, h, n => absurd h n
  | c :: C, nd, nz, x, h, n => by
    obtain ⟨h1, h2⟩ := List.nodup_cons.mp nd
    have ih := @logs_lead C h2 fun y hy => nz y (List.mem_cons_of_mem _ hy)
    have hc := nz c (List.mem_cons_self ..)
    rcases h with h | h
    · obtain ⟨y, hy, e⟩ := ih h n
      exact ⟨y, List.mem_cons_of_mem _ hy, e⟩
    · by_cases z : x ^^^ c = 0
      · have e : x = c := Classical.byContradiction fun q => ne_bit q z
        exact ⟨c, List.mem_cons_self .., by rw [e]⟩
      · obtain ⟨y, hy, e⟩ := ih h z
        have ne : (x ^^^ c).log2 ≠ c.log2 := fun q => h1 (List.mem_map.mpr ⟨y, hy, e.trans q⟩)
        have ex : x = (x ^^^ c) ^^^ c := by rw [Nat.xor_assoc, Nat.xor_self, Nat.xor_zero]
        rcases Nat.lt_or_gt_of_ne ne with q | q
        · have := (log_xor hc q).2
          rw [← ex] at this
          exact ⟨c, List.mem_cons_self .., this.symm⟩
        · have := (log_xor z q).2
          rw [Nat.xor_comm, ← ex] at this
          exact ⟨y, List.mem_cons_of_mem _ hy, e.trans this.symm⟩
theorem logs_indep {C : List Nat} (nd : (C.map Nat.log2).Nodup) (nz : ∀ c ∈ C, c ≠ 0) : Indep C := fun i r hi hin => by
  have hl := (List.getElem?_eq_some_iff.mp hi).1
  have hr := nz r (List.mem_of_getElem? hi)
  have nd2 : ((C.take i).map Nat.log2).Nodup := by
    rw [List.map_take]
    exact nd.sublist (List.take_sublist _ _)
  obtain ⟨y, hy, e⟩ := logs_lead nd2 (fun c hc => nz c (List.mem_of_mem_take hc)) hin hr
  obtain ⟨j, hj⟩ := List.getElem?_of_mem hy
  have hj1 := (List.getElem?_eq_some_iff.mp hj).1
  rw [List.length_take] at hj1
  rw [List.getElem?_take_of_lt (by omega)] at hj
  have d := List.pairwise_iff_getElem.mp nd j i (by rw [List.length_map]; omega) (by rw [List.length_map]; omega) (by omega)
  rw [List.getElem_map, List.getElem_map] at d
  rw [(List.getElem?_eq_some_iff.mp hj).2, (List.getElem?_eq_some_iff.mp hi).2] at d
  exact d e
/-- the top bit taken off -/
theorem log_off {a b : Nat} (ha : a ≠ 0) (h : b.log2 = a.log2) (hb : b ≠ 0) : a ^^^ b < a := by
  refine lt_of_bit (i := a.log2) ?_ (tb_log ha) fun j hj => ?_
  · rw [Nat.testBit_xor, tb_log ha, ← h, tb_log hb]
    rfl
  · rw [Nat.testBit_xor, tb_above hj, tb_above (h ▸ hj)]
    rfl
end GF
set_option Elab.async false
set_option maxRecDepth 100000
namespace X1
open PySem PySem.Spec PyProof.Rows L2
open GF (pc par pc_0 pc_eq par_lt)
/-- one bit of a bank -/
def bitOf (ms : List Int) (a : Int) (i : Nat) : Int := (par (a.toNat &&& ((ms.getD i 0).toNat)) : Int) * 2 ^ i
def bits (ms : List Int) (a : Int) : List Int := (List.range ms.length).map (bitOf ms a)
/-- the bank of an address -/
def bankOf (ms : List Int) (a : Int) : Int := (bits ms a).sum
theorem bits_length (ms : List Int) (a : Int) : (bits ms a).length = ms.length := by
  unfold bits
  rw [List.length_map, List.length_range]
theorem bits_next (ms : List Int) (a : Int) {i : Nat} (h : i < ms.length) : (bits ms a).take i ++ [bitOf ms a i] = (bits ms a).take (i + 1) := by
  have e : (bits ms a)[i]? = some (bitOf ms a i) := by
    unfold bits
    rw [List.getElem?_map, List.getElem?_range h]
    rfl
  rw [List.take_add_one, e]
  rfl
theorem sum_lt (ms : List Int) (a : Int) : ∀ i, i ≤ ms.length → 0 ≤ ((bits ms a).take i).sum ∧ ((bits ms a).take i).sum < 2 ^ i
  | 0, _ => ⟨Int.le_refl 0, by show (0 : Int) < 1; decide⟩
  | i + 1, h => by
    obtain ⟨h1, h2⟩ := sum_lt ms a i (by omega)
    rw [← bits_next ms a (by omega), List.sum_append]
    have hp := par_lt (a.toNat &&& ((ms.getD i 0).toNat))
    have h3 : 0 ≤ bitOf ms a i ∧ bitOf ms a i ≤ 2 ^ i := by
      have hh : (0 : Int) ≤ 2 ^ i := two_pow_nn i
      unfold bitOf
      rcases (by omega : par (a.toNat &&& ((ms.getD i 0).toNat)) = 0 ∨ par (a.toNat &&& ((ms.getD i 0).toNat)) = 1) with e | e
      · rw [e]
        simp [hh]
      · rw [e]
        simp [hh]
    have e2 : (2 : Int) ^ (i + 1) = 2 ^ i + 2 ^ i := by
      rw [Int.pow_succ]
      omega
    rw [e2]
    simp only [List.sum_cons, List.sum_nil]
    omega
theorem bank_lt (ms : List Int) (a : Int) : 0 ≤ bankOf ms a ∧ bankOf ms a < 2 ^ ms.length := by
  have h := sum_lt ms a ms.length (Nat.le_refl _)
  rw [List.take_of_length_le (by rw [bits_length]; exact Nat.le_refl _)] at h
  exact h
end X1
set_option Elab.async false
set_option maxRecDepth 100000
set_option maxHeartbeats 4000000
namespace X1
open PySem L2
open GF (pc par pc_0 pc_eq par_lt)
def top (i : Nat) : Stmt := PySem.Challenge.pw_xorbanks_k27_maps_completed.main.body.getD i (.Pass ⟨0, 0, 0, 0⟩)
abbrev sIsInt : Stmt := top 8
abbrev sIsAddr : Stmt := top 10
abbrev sAreAddrs : Stmt := top 11
abbrev sAreMasks : Stmt := top 12
abbrev sCkWidth : Stmt := top 13
abbrev sCkMap : Stmt := top 14
abbrev sRem : Stmt := top 16
abbrev sRed : Stmt := top 17
abbrev sPowers : Stmt := top 19
abbrev sInd : Stmt := top 21
abbrev sComp : Stmt := top 22
abbrev sBox : Stmt := top 24
abbrev sTake : Stmt := top 25
abbrev sOf : Stmt := top 26
abbrev sOdd : Stmt := top 27
abbrev sPlace : Stmt := top 28
abbrev sAllOf : Stmt := top 29
abbrev sRank : Stmt := top 30
abbrev sLot : Stmt := top 31
abbrev sPlan : Stmt := top 32
abbrev sTold : Stmt := top 33
abbrev sFree : Stmt := top 34
abbrev sDue : Stmt := top 35
abbrev sOwn : Stmt := top 36
abbrev sWide : Stmt := top 37
abbrev sRight : Stmt := top 38
abbrev sLaw : Stmt := top 39
/-- a def of the module, as it stands behind the top -/
structure At (K : PySem.W.Frag) (mg : Str → Option Value) (x : Str) (st : Stmt) (ps : List Str) (f : Addr) (fd : FuncData) : Prop where
  fn : Fun K x x st f fd
  mg : mg x = some (.ref f)
  bi : Binds K fd ps []
/-- what else the defs ask of the module -/
abbrev sIsWidth : Stmt := top 9
abbrev sIndepN : Stmt := top 18
structure Txt (K : PySem.W.Frag) (mg : Str → Option Value) : Prop where
  isIndep : ∃ f fd, At K mg "independent" sIndepN ["known", "vectors"] f fd
  isWidth : ∃ f fd, At K mg "is_width" sIsWidth ["value"] f fd
  isinstance : mg "isinstance" = none
  int : mg "int" = none
  bool : mg "bool" = none
  tuple : mg "tuple" = none
  len : mg "len" = none
  all : mg "all" = none
  sum : mg "sum" = none
  enum : mg "enumerate" = none
  sorted : mg "sorted" = none
  abs : mg "abs" = none
  range : mg "range" = none
  repr : mg "repr" = none
  max : mg "max" = none
  min : mg "min" = none
  list : mg "list" = none
  dict : mg "dict" = none
  set : mg "set" = none
  mWidth : ∃ t, mg "MOST_WIDTH" = some (.int 16 t)
  mMasks : ∃ t, mg "MOST_MASKS" = some (.int 16 t)
theorem iteFb {b : Bool} {A B : Prop} (h : b = false) (k : B) : if b = true then A else B := by
  subst h
  exact iteF k
theorem iteTb {b : Bool} {A B : Prop} (h : b = true) (k : A) : if b = true then A else B := by
  subst h
  exact iteT k
theorem yes {σ : St} {H : Hp} {Q : Bool → Hp → Prop} (h : Q true H) : tYes σ H Q := h
theorem qv {Q : VK} {v v' : V} {H : Hp} (e : v = v') (k : Q v' H) : Q v H := e ▸ k
section
variable {P : Program} {w : World} {K : PySem.W.Frag} {mg : Str → Option Value} {base : Heap}
/-! ### is_int, of an int -/
def spIsInt : Sp := fun vs H Q _ => ∃ i : Int, vs = [.int i] ∧ Q (.bl true) H
theorem scIsInt : FnScope ["value"] ["value"] (defScope sIsInt) := ⟨rfl, rfl, rfl, by decide +kernel, rfl, by decide +kernel, by decide +kernel⟩
theorem ok_isInt {f : Addr} {fd : FuncData} (A0 : At K mg "is_int" sIsInt ["value"] f fd) (T : Txt K mg) : FnOk P w K mg base CX0 1 f fd ["value"] spIsInt := by
  refine A0.fn.ok scIsInt (fun vs H Q E h => ?_) (fun cdv A outer s H vs Q E hr h => ?_)
  · obtain ⟨i, rfl, _⟩ := h
    rfl
  · obtain ⟨i, rfl, k⟩ := h
    refine ⟨_, pss_one (ps_ret (pe_and (pe_callB call_isi (by rfl) T.isinstance (by decide +kernel) (pa_cons (pv 0) (pa_cons (pe_bltn (v := .ty "int") (by rfl) T.int (by decide +kernel) rfl) pa_nil)))
      (pe_one (pe_not (pe_callB call_isi (by rfl) T.isinstance (by decide +kernel) (pa_cons (pv 0) (pa_cons (pe_bltn (v := .ty "bool") (by rfl) T.bool (by decide +kernel) rfl) pa_nil))))))), ?_⟩
    refine ⟨_, rfl, _, _, _, _, _, rfl, .ty _, .base (.int _), kit_ty (r := true) (by decide +kernel), _, rfl, iteT ?_⟩
    exact ⟨_, rfl, _, _, _, _, _, rfl, .ty _, .base (.int _), kit_ty (r := false) (by decide +kernel), _, rfl, k⟩

/-! ### is_address, of ints -/
def spIsAddr : Sp := fun vs H Q _ => ∃ wd v : Int, vs = [.int wd, .int v] ∧ 0 ≤ wd ∧ wd ≤ 1000 ∧ Q (.bl (decide (0 ≤ v ∧ v < 2 ^ wd.toNat))) H
theorem scIsAddr : FnScope ["width", "value"] ["width", "value"] (defScope sIsAddr) := ⟨rfl, rfl, rfl, by decide +kernel, rfl, by decide +kernel, by decide +kernel⟩
theorem ok_isAddr {f f1 : Addr} {fd fd1 : FuncData} (A0 : At K mg "is_address" sIsAddr ["width", "value"] f fd) (A1 : At K mg "is_int" sIsInt ["value"] f1 fd1) (T : Txt K mg) :
    FnOk P w K mg base CX0 2 f fd ["width", "value"] spIsAddr := by
  have G1 : FnOk P w K mg base CX0 1 f1 fd1 ["value"] spIsInt := ok_isInt A1 T
  refine A0.fn.ok scIsAddr (fun vs H Q E h => ?_) (fun cdv A outer s H vs Q E hr h => ?_)
  · obtain ⟨i, j, rfl, _⟩ := h
    rfl
  · obtain ⟨wd, v, rfl, h0, h1, k⟩ := h
    refine ⟨_, pss_one (ps_ret (pe_and (pe_call G1 hr (by rfl) A1.mg A1.fn.kp A1.bi .nil pass0 (pa_cons (pv 1) pa_nil))
      (pe_one (pe_chain op_le op_lt pe_int (pv 1) (pe_op op_shl pe_int (pv 0)))))), ?_⟩
    refine ⟨_, rfl, _, rfl, _, rfl, iteT ?_⟩
    refine ⟨_, rfl, _, _, rfl, rfl, _, rfl, ?_⟩
    by_cases hv : 0 ≤ v
    · refine iteTb (decide_eq_true hv) ?_
      refine ⟨_, rfl, _, _, rfl, rfl, ⟨h0, by omega, by decide⟩, _, _, rfl, rfl, ?_⟩
      exact qv (by rw [Int.one_mul]; simp [hv]) k
    · refine iteFb (decide_eq_false hv) ?_
      exact qv (by simp [hv]) k
/-- all of them addresses of the width -/
def InW (wd : Int) (ns : List Int) : Prop := ∀ x ∈ ns, 0 ≤ x ∧ x < 2 ^ wd.toNat
/-! ### are_addresses, of a tuple of addresses -/
def spAreAddrs (K : PySem.W.Frag) : Sp := fun vs H Q _ => ∃ (wd m : Int) (p : Addr) (ns : List Int), vs = [.int wd, .ref p, .int m] ∧ 0 ≤ wd ∧ wd ≤ 1000 ∧ H p = some (.tup (ns.map V.int)) ∧ (ns.length : Int) ≤ m ∧ ns.length ≤ 1000 ∧ InW wd ns ∧
  ∀ H', Same H H' → Q (.bl true) H'
theorem scAreAddrs : FnScope ["width", "value", "most", "item"] ["width", "value", "most"] (defScope sAreAddrs) := ⟨rfl, rfl, rfl, by decide +kernel, rfl, by decide +kernel, by decide +kernel⟩
theorem ok_areAddrs {f f1 f2 : Addr} {fd fd1 fd2 : FuncData} (A0 : At K mg "are_addresses" sAreAddrs ["width", "value", "most"] f fd) (A1 : At K mg "is_int" sIsInt ["value"] f1 fd1)
    (A2 : At K mg "is_address" sIsAddr ["width", "value"] f2 fd2) (T : Txt K mg) : FnOk P w K mg base CX0 3 f fd ["width", "value", "most"] (spAreAddrs K) := by
  have G2 : FnOk P w K mg base CX0 2 f2 fd2 ["width", "value"] spIsAddr := ok_isAddr A2 A1 T
  refine A0.fn.ok scAreAddrs (fun vs H Q E h => ?_) (fun cdv A outer s H vs Q E hr h => ?_)
  · obtain ⟨wd, m, p, ns, rfl, _⟩ := h
    rfl
  · obtain ⟨wd, m, p, ns, rfl, h0, h1, hp, hm, hl, hin, k⟩ := h
    refine ⟨_, pss_cons (ps_if (PW.pt (pw_or (pt_not (pt_val (pe_callB call_isi (by rfl) T.isinstance (by decide +kernel) (pa_cons (pv 1) (pa_cons (pe_bltn (v := .ty "tuple") (by rfl) T.tuple (by decide +kernel) rfl) pa_nil)))))
        (pw_or1 (pt_cmpR op_gt (pe_callB call_len_seq (by rfl) T.len PySem.boot_len (pa_cons (pv 1) pa_nil)) (pv 2) (nomark _))))) (pss_one (ps_ret pe_bl)) pss_nil)
      (pss_one (ps_ret (pe_callB (cr_all rfl) (by rfl) T.all (by decide +kernel) (pa_cons (pe_lc (own := [("item", 3)]) (g := gName 3) (tt := tYes) rfl scAreAddrs.nd (pi_tup (pv 1))
        (blkOk_by (N := ["width", "value", "most", "item"]) (sc := defScope sAreAddrs) (by decide +kernel)) (fun _ _ _ _ _ => pg_name (i := 3) scAreAddrs.nd rfl (Or.inl rfl)) (fun _ _ _ _ _ => pts_nil)
        (fun _ _ _ _ _ => pe_call G2 hr (by rfl) A2.mg A2.fn.kp A2.bi .nil pass0 (pa_cons (pv 0) (pa_cons (pv 3) pa_nil)))) pa_nil)))), ?_⟩
    refine ⟨_, rfl, _, _, _, _, _, rfl, .ty _, .base (.tup hp), kit_ty (r := true) (by decide +kernel), _, rfl, iteF ?_⟩
    refine ⟨_, rfl, _, _, rfl, .inr (SqT.of hp), _, rfl, _, _, rfl, rfl, _, rfl, ?_⟩
    refine iteFb (decide_eq_false (by rw [List.length_map]; omega)) ?_
    refine ⟨_, rfl, _, rfl, ⟨_, SqT.of hp⟩, fun D hD => ?_⟩
    have npD : p ≠ D := ne_of_none hp hD
    refine lc_tup (K := K) (a := p) (xs := ns.map V.int) (fun i H' => (∀ b o, b ≠ D → H b = some o → H' b = some o) ∧ H' D = some (.lst ((List.replicate i true).map V.bl))) ⟨fun b o n e => by rw [upd_ne n]; exact e, upd_same⟩ (fun i H' _ ⟨s1, _⟩ => SqT.of (s1 _ _ npD hp)) ?_ ?_
    · rintro i x H' hi ⟨s1, hd⟩
      rw [List.getElem?_map] at hi
      cases e : ns[i]? with
      | none =>
        rw [e] at hi
        cases hi
      | some u =>
        rw [e] at hi
        cases hi
        have hu := hin u (List.mem_of_getElem? e)
        have hil : i < ns.length := (List.getElem?_eq_some_iff.mp e).1
        refine ⟨rfl, yes (iteT ?_)⟩
        refine ⟨_, rfl, _, rfl, wd, u, rfl, h0, h1, _, hd, ?_, ?_⟩
        · rw [List.length_map, List.length_replicate]
          exact Nat.lt_of_lt_of_le hil (Nat.le_trans hl (by decide))
        · refine ⟨fun b o n e => by rw [upd_ne n]; exact s1 b o n e, ?_⟩
          rw [upd_same, decide_eq_true hu, List.replicate_succ', List.map_append]
          rfl
    · rintro H' ⟨s1, hd⟩
      rw [List.length_map] at hd
      refine ⟨D, _, rfl, SqL.of hd, ?_⟩
      rw [show (List.replicate ns.length true).all id = true by simp]
      exact k H' fun b o e => s1 b o (ne_of_none e hD) e
/-! ### are_masks -/
def spAreMasks (K : PySem.W.Frag) : Sp := fun vs H Q _ => ∃ (wd : Int) (p : Addr) (ns : List Int), vs = [.int wd, .ref p] ∧ 0 ≤ wd ∧ wd ≤ 1000 ∧ H p = some (.tup (ns.map V.int)) ∧ ns.length ≤ 16 ∧ InW wd ns ∧ ∀ H', Same H H' → Q (.bl true) H'
theorem scAreMasks : FnScope ["width", "value"] ["width", "value"] (defScope sAreMasks) := ⟨rfl, rfl, rfl, by decide +kernel, rfl, by decide +kernel, by decide +kernel⟩
theorem ok_areMasks {f f1 f2 f3 : Addr} {fd fd1 fd2 fd3 : FuncData} (A0 : At K mg "are_masks" sAreMasks ["width", "value"] f fd) (A1 : At K mg "is_int" sIsInt ["value"] f1 fd1)
    (A2 : At K mg "is_address" sIsAddr ["width", "value"] f2 fd2) (A3 : At K mg "are_addresses" sAreAddrs ["width", "value", "most"] f3 fd3) (T : Txt K mg) : FnOk P w K mg base CX0 4 f fd ["width", "value"] (spAreMasks K) := by
  have G3 : FnOk P w K mg base CX0 3 f3 fd3 ["width", "value", "most"] (spAreAddrs K) := ok_areAddrs A3 A1 A2 T
  obtain ⟨tm, hmm⟩ := T.mMasks
  refine A0.fn.ok scAreMasks (fun vs H Q E h => ?_) (fun cdv A outer s H vs Q E hr h => ?_)
  · obtain ⟨wd, p, ns, rfl, _⟩ := h
    rfl
  · obtain ⟨wd, p, ns, rfl, h0, h1, hp, hl, hin, k⟩ := h
    refine ⟨_, pss_one (ps_ret (pe_call G3 hr (by rfl) A3.mg A3.fn.kp A3.bi .nil pass0 (pa_cons (pv 0) (pa_cons (pv 1) (pa_cons (pe_glob (v := .int 16) (by rfl) hmm ⟨_, rfl⟩) pa_nil))))), ?_⟩
    exact ⟨_, rfl, _, rfl, wd, 16, p, ns, rfl, h0, h1, hp, by omega, by omega, hin, k⟩
/-! ### the checks -/
/-! ### is_width, of an int -/
def spIsWidth : Sp := fun vs H Q _ => ∃ wd : Int, vs = [.int wd] ∧ 1 ≤ wd ∧ wd ≤ 16 ∧ Q (.bl true) H
theorem scIsWidth : FnScope ["value"] ["value"] (defScope sIsWidth) := ⟨rfl, rfl, rfl, by decide +kernel, rfl, by decide +kernel, by decide +kernel⟩
theorem ok_isWidth {f f1 : Addr} {fd fd1 : FuncData} (A0 : At K mg "is_width" sIsWidth ["value"] f fd) (A1 : At K mg "is_int" sIsInt ["value"] f1 fd1) (T : Txt K mg) : FnOk P w K mg base CX0 2 f fd ["value"] spIsWidth := by
  have G1 : FnOk P w K mg base CX0 1 f1 fd1 ["value"] spIsInt := ok_isInt A1 T
  obtain ⟨tw, hmw⟩ := T.mWidth
  refine A0.fn.ok scIsWidth (fun vs H Q E h => ?_) (fun cdv A outer s H vs Q E hr h => ?_)
  · obtain ⟨wd, rfl, _⟩ := h
    rfl
  · obtain ⟨wd, rfl, h0, h1, k⟩ := h
    refine ⟨_, pss_one (ps_ret (pe_and (pe_call G1 hr (by rfl) A1.mg A1.fn.kp A1.bi .nil pass0 (pa_cons (pv 0) pa_nil)) (pe_one (pe_chain op_le op_le pe_int (pv 0) (pe_glob (v := .int 16) (by rfl) hmw ⟨_, rfl⟩))))), ?_⟩
    refine ⟨_, rfl, _, rfl, _, rfl, iteT ?_⟩
    refine ⟨_, rfl, _, _, rfl, rfl, _, rfl, ?_⟩
    refine iteTb (decide_eq_true h0) ?_
    refine ⟨_, _, rfl, rfl, ?_⟩
    exact qv (show V.bl (decide (wd ≤ 16)) = V.bl true by rw [decide_eq_true h1]) k
def spCkWidth : Sp := fun vs H Q _ => ∃ wd : Int, vs = [.int wd] ∧ 1 ≤ wd ∧ wd ≤ 16 ∧ Q .non H
theorem scCkWidth : FnScope ["width"] ["width"] (defScope sCkWidth) := ⟨rfl, rfl, rfl, by decide +kernel, rfl, by decide +kernel, by decide +kernel⟩
theorem ok_ckWidth {f f1 : Addr} {fd fd1 : FuncData} (A0 : At K mg "check_width" sCkWidth ["width"] f fd) (A1 : At K mg "is_int" sIsInt ["value"] f1 fd1) (T : Txt K mg) : FnOk P w K mg base CX0 3 f fd ["width"] spCkWidth := by
  obtain ⟨f2, fd2, A2⟩ := T.isWidth
  have G2 : FnOk P w K mg base CX0 2 f2 fd2 ["value"] spIsWidth := ok_isWidth A2 A1 T
  refine A0.fn.ok scCkWidth (fun vs H Q E h => ?_) (fun cdv A outer s H vs Q E hr h => ?_)
  · obtain ⟨wd, rfl, _⟩ := h
    rfl
  · obtain ⟨wd, rfl, h0, h1, k⟩ := h
    refine ⟨_, pss_one (ps_if (pt_not (pt_val (pe_call G2 hr (by rfl) A2.mg A2.fn.kp A2.bi .nil pass0 (pa_cons (pv 0) pa_nil)))) (pss_one ps_never) pss_nil), ?_⟩
    refine ⟨_, rfl, _, rfl, h0, h1, _, rfl, ?_⟩
    exact iteF k
def spCkMap (K : PySem.W.Frag) : Sp := fun vs H Q _ => ∃ (wd : Int) (p : Addr) (ns : List Int), vs = [.int wd, .ref p] ∧ 0 ≤ wd ∧ wd ≤ 1000 ∧ H p = some (.tup (ns.map V.int)) ∧ ns.length ≤ 16 ∧ InW wd ns ∧ ∀ H', Same H H' → Q .non H'
theorem scCkMap : FnScope ["width", "masks"] ["width", "masks"] (defScope sCkMap) := ⟨rfl, rfl, rfl, by decide +kernel, rfl, by decide +kernel, by decide +kernel⟩
theorem ok_ckMap {f f1 f2 f3 f4 : Addr} {fd fd1 fd2 fd3 fd4 : FuncData} (A0 : At K mg "check_map" sCkMap ["width", "masks"] f fd) (A1 : At K mg "is_int" sIsInt ["value"] f1 fd1)
    (A2 : At K mg "is_address" sIsAddr ["width", "value"] f2 fd2) (A3 : At K mg "are_addresses" sAreAddrs ["width", "value", "most"] f3 fd3) (A4 : At K mg "are_masks" sAreMasks ["width", "value"] f4 fd4) (T : Txt K mg) :
    FnOk P w K mg base CX0 5 f fd ["width", "masks"] (spCkMap K) := by
  have G4 : FnOk P w K mg base CX0 4 f4 fd4 ["width", "value"] (spAreMasks K) := ok_areMasks A4 A1 A2 A3 T
  refine A0.fn.ok scCkMap (fun vs H Q E h => ?_) (fun cdv A outer s H vs Q E hr h => ?_)
  · obtain ⟨wd, p, ns, rfl, _⟩ := h
    rfl
  · obtain ⟨wd, p, ns, rfl, h0, h1, hp, hl, hin, k⟩ := h
    refine ⟨_, pss_one (ps_if (pt_not (pt_val (pe_call G4 hr (by rfl) A4.mg A4.fn.kp A4.bi .nil pass0 (pa_cons (pv 0) (pa_cons (pv 1) pa_nil))))) (pss_one ps_never) pss_nil), ?_⟩
    exact ⟨_, rfl, _, rfl, wd, p, ns, rfl, h0, h1, hp, hl, hin, fun H' sm => ⟨_, rfl, iteF (k H' sm)⟩⟩
end
end X1
set_option Elab.async false
set_option maxRecDepth 100000
set_option maxHeartbeats 4000000
namespace X1
open PySem L2
open GF (pc par pc_0 pc_eq par_lt)
/-- the law's own stream of draws: three ints in a list -/
def BoxO (n : Int) (o : HO) : Prop := ∃ x0 x1 x2 : Int, o = .lst [.int x0, .int x1, .int x2] ∧ 0 ≤ x0 ∧ x0 < 2 ^ 1000 ∧ 0 ≤ x1 ∧ x1 < 2 ^ 62 ∧ 0 ≤ x2 ∧ x2 ≤ n
theorem BoxO.mono {n m : Int} {o : HO} (h : n ≤ m) (b : BoxO n o) : BoxO m o := by
  obtain ⟨x0, x1, x2, e, h0, h1, h2, h3, h4, h5⟩ := b
  exact ⟨x0, x1, x2, e, h0, h1, h2, h3, h4, by omega⟩
theorem BoxO.lst {n : Int} {o : HO} (b : BoxO n o) : ∃ xs, o = .lst xs := by
  obtain ⟨x0, x1, x2, e, _⟩ := b
  exact ⟨_, e⟩
/-- all but b as it was -/
def Sam (b : Addr) (H H' : Hp) : Prop := ∀ c o, c ≠ b → H c = some o → H' c = some o
theorem Sam.refl (b : Addr) (H : Hp) : Sam b H H := fun _ _ _ e => e
theorem Sam.trans {b : Addr} {H H1 H2 : Hp} (x : Sam b H H1) (y : Sam b H1 H2) : Sam b H H2 := fun c o n e => y c o n (x c o n e)
theorem Sam.upd {b : Addr} {o : HO} {H : Hp} : Sam b H (upd H b o) := fun c u n e => by rw [upd_ne n]; exact e
theorem Sam.new {b p : Addr} {o : HO} {H H' : Hp} (x : Sam b H H') (hp : H' p = none) : Sam b H (L2.upd H' p o) := fun c u n e => by
  rw [upd_ne (ne_of_none (x c u n e) hp)]
  exact x c u n e
theorem b01 (b : Bool) : -(2 ^ 64) < (if b = true then (1 : Int) else 0) ∧ (if b = true then (1 : Int) else 0) < 2 ^ 64 := by cases b <;> decide
theorem mulb {x M : Int} (b : Bool) (h0 : 0 ≤ x) (h : x < M) : 0 ≤ x * (if b = true then (1 : Int) else 0) ∧ x * (if b = true then (1 : Int) else 0) < M := by
  cases b
  · rw [if_neg (by decide), Int.mul_zero]
    omega
  · rw [if_pos rfl, Int.mul_one]
    exact ⟨h0, h⟩
theorem big300 : (0 : Int) < ((10 : Int) ^ (60 : Int).toNat) ^ (5 : Int).toNat ∧ ((10 : Int) ^ (60 : Int).toNat) ^ (5 : Int).toNat < 2 ^ 1000 := by decide +kernel
theorem mulB (x : Int) (b : Bool) : 0 ≤ x % (((10 : Int) ^ (60 : Int).toNat) ^ (5 : Int).toNat) * (if b = true then (1 : Int) else 0) ∧ x % (((10 : Int) ^ (60 : Int).toNat) ^ (5 : Int).toNat) * (if b = true then (1 : Int) else 0) < 2 ^ 1000 :=
  mulb b (Int.emod_nonneg x (Int.ne_of_gt big300.1)) (Int.lt_trans (Int.emod_lt_of_pos x big300.1) big300.2)
section
variable {P : Program} {w : World} {K : PySem.W.Frag} {mg : Str → Option Value} {base : Heap}
/-! ### _law_box -/
def spBox (K : PySem.W.Frag) : Sp := fun vs H Q _ => ∃ (a : Addr) (ns : List Int) (k : Nat), vs = [.ref a, .int (k : Int)] ∧ SqL K H a (ns.map V.int) ∧ k ≤ 1000 ∧ ∀ b o, H b = none → BoxO 0 o → Q (.ref b) (upd H b o)
theorem scBox : FnScope ["_law_script", "_law_k", "_law_cell", "_law_own"] ["_law_script", "_law_k"] (defScope sBox) := ⟨rfl, rfl, rfl, by decide +kernel, rfl, by decide +kernel, by decide +kernel⟩
theorem ok_box {f : Addr} {fd : FuncData} (A0 : At K mg "_law_box" sBox ["_law_script", "_law_k"] f fd) (T : Txt K mg) : FnOk P w K mg base CX0 1 f fd ["_law_script", "_law_k"] (spBox K) := by
  refine A0.fn.ok scBox (fun vs H Q E h => ?_) (fun cdv A outer s H vs Q E hr h => ?_)
  · obtain ⟨a, ns, k, rfl, _⟩ := h
    rfl
  · obtain ⟨a, ns, j, rfl, hS, hj, k⟩ := h
    refine ⟨_, pss_cons (ps_set (i := 2) scBox.nd rfl (Or.inl rfl) (pe_ifExp (pt_cmpR op_lt (pv 1) (pe_callB call_len_seq (by rfl) T.len PySem.boot_len (pa_cons (pv 0) pa_nil)) (nomark _))
        (pe_ix ix_list (pv 0) (pv 1) (fun _ _ => rfl)) (pe_op op_add (pe_op op_mul pe_int (pv 1)) pe_int)))
      (pss_cons (ps_set (i := 3) scBox.nd rfl (Or.inl rfl) (pe_op op_mul (pe_op op_mod (pe_callB call_abs (by rfl) T.abs (by decide +kernel) (pa_cons (pv 2) pa_nil)) (pe_op G.op_powW (pe_op op_pow pe_int pe_int) pe_int))
        (pe_callTy call_int1 (by rfl) T.int (by decide +kernel) (pa_cons (pe_cmpR op_ge (pe_callB call_abs (by rfl) T.abs (by decide +kernel) (pa_cons (pv 2) pa_nil)) (pe_op op_pow pe_int pe_int) (nomark _)) pa_nil))))
      (pss_one (ps_ret (pe_lst (pa_cons (pv 3) (pa_cons (pe_op op_mod (pe_op op_add (pe_op op_add (pe_op op_mul (pe_op op_mod (pv 2) pe_int) pe_int) (pe_op op_mul (pe_op op_mul pe_int (pv 1)) (pv 1))) pe_int) pe_int) (pa_cons pe_int pa_nil))))))), ?_⟩
    refine ⟨_, rfl, _, rfl, a, _, rfl, .inl hS, _, _, rfl, rfl, _, rfl, ?_⟩
    refine ite2 (fun hlt => ?g1) (fun hlt => ?g2)
    case' g1 =>
      obtain ⟨c, hc⟩ : ∃ c, ns[j]? = some c := ⟨_, List.getElem?_eq_getElem (by simpa using hlt)⟩
      refine ⟨_, rfl, _, rfl, a, _, _, _, rfl, rfl, hS, atI_nat (v := V.int c) (by rw [List.getElem?_map, hc]; rfl), ?_⟩
    case' g2 => refine ⟨_, rfl, _, _, rfl, rfl, .inl ⟨by decide, by decide⟩, _, _, rfl, rfl, ?_⟩
    all_goals
      refine ⟨_, rfl, _, rfl, _, _, rfl, rfl, ⟨by decide, by decide, by decide⟩, _, _, rfl, rfl, ⟨by decide, by decide +kernel⟩, _, _, rfl, rfl, big300.1, ?_⟩
      refine ⟨_, rfl, _, rfl, _, _, rfl, rfl, ⟨by decide, by decide, by decide⟩, _, _, rfl, rfl, .inr ⟨_, rfl, _, _, rfl, rfl, .inr (b01 _), ?_⟩⟩
      refine ⟨_, rfl, _, rfl, _, _, rfl, rfl, (by show (0 : Int) < 2305843009213693951; decide), _, _, rfl, rfl, .inr ⟨by decide, by decide⟩, _, rfl, _, _, rfl, rfl, .inl ⟨by decide, by decide⟩, _, rfl, _, _, rfl, rfl, .inr ⟨by omega, by omega⟩, _, _, rfl, rfl, _, _, rfl, rfl, _, _, rfl, rfl, (by show (0 : Int) < 2305843009213693921; decide), (by show 3 ≤ sizeLine; decide), fun b hb => ?_⟩
      exact k b _ hb ⟨_, _, _, rfl, (mulB _ _).1, (mulB _ _).2, Int.emod_nonneg _ (by decide), Int.lt_trans (Int.emod_lt_of_pos _ (by decide)) (by decide), Int.le_refl 0, Int.le_refl 0⟩
/-! ### _law_take -/
def spTake : Sp := fun vs H Q _ => ∃ (b : Addr) (n many : Int) (o : HO), vs = [.ref b, .int many] ∧ H b = some o ∧ BoxO n o ∧ n ≤ 1000000 ∧ 0 < many ∧ many < 2 ^ 1000 ∧
  ∀ v o', 0 ≤ v → v < many → BoxO (n + 1) o' → Q (.int v) (upd H b o')
theorem scTake : FnScope ["_law_box_here", "_law_many", "_law_digit", "_law_mixed"] ["_law_box_here", "_law_many"] (defScope sTake) := ⟨rfl, rfl, rfl, by decide +kernel, rfl, by decide +kernel, by decide +kernel⟩
theorem ok_take {f : Addr} {fd : FuncData} (A0 : At K mg "_law_take" sTake ["_law_box_here", "_law_many"] f fd) : FnOk P w K mg base CX0 1 f fd ["_law_box_here", "_law_many"] spTake := by
  refine A0.fn.ok scTake (fun vs H Q E h => ?_) (fun cdv A outer s H vs Q E hr h => ?_)
  · obtain ⟨b, n, m, o, rfl, _⟩ := h
    rfl
  · obtain ⟨b, n, m, o, rfl, hb, ⟨x0, x1, x2, rfl, h0, h1, h2, h3, h4, h5⟩, hn, m0, m1, k⟩ := h
    refine ⟨_, pss_cons (ps_if (pt_cmpR op_gt (pe_ix ix_list (pv 0) pe_int (fun _ _ => rfl)) pe_int (nomark _))
        (pss_cons (ps_set (i := 2) scTake.nd rfl (Or.inl rfl) (pe_op op_mod (pe_ix ix_list (pv 0) pe_int (fun _ _ => rfl)) (pv 1)))
        (pss_cons (ps_asg (pe_op op_fdivW (pe_ix ix_list (pv 0) pe_int (fun _ _ => rfl)) (pv 1)) (pg_sub (pv 0) pe_int set_list)) (pss_one (ps_ret (pv 2))))) pss_nil)
      (pss_cons (ps_asg (pe_op op_add (pe_ix ix_list (pv 0) pe_int (fun _ _ => rfl)) pe_int) (pg_sub (pv 0) pe_int set_list))
      (pss_cons (ps_set (i := 3) scTake.nd rfl (Or.inl rfl) (pe_op op_mod (pe_op op_mul (pe_op op_add (pe_op op_add (pe_ix ix_list (pv 0) pe_int (fun _ _ => rfl))
          (pe_op op_mul (pe_op op_mul pe_int (pe_ix ix_list (pv 0) pe_int (fun _ _ => rfl))) (pe_ix ix_list (pv 0) pe_int (fun _ _ => rfl)))) pe_int) pe_int) pe_int))
      (pss_cons (ps_set (i := 3) scTake.nd rfl (Or.inl rfl) (pe_op op_mod (pe_op op_mul (pv 3) (pe_op op_add (pe_op op_mod (pv 3) pe_int) (pe_op op_mul pe_int (pe_ix ix_list (pv 0) pe_int (fun _ _ => rfl))))) pe_int))
      (pss_one (ps_ret (pe_op op_mod (pe_op op_add (pe_op op_fdiv (pv 3) pe_int) (pe_op op_fdiv (pv 3) pe_int)) (pv 1))))))), ?_⟩
    refine ⟨_, rfl, b, _, 0, _, rfl, rfl, SqL.of hb, rfl, _, _, rfl, rfl, _, rfl, ?_⟩
    refine ite2 (fun hp => ?_) (fun hp => ?_)
    · refine ⟨_, rfl, b, _, 0, _, rfl, rfl, SqL.of hb, rfl, _, rfl, _, _, rfl, rfl, m0, ?_⟩
      refine ⟨_, rfl, b, _, 0, _, rfl, rfl, SqL.of hb, rfl, _, rfl, _, _, rfl, rfl, wide_div m0 (b := 1000) (by omega) (by decide) (by decide), ?_⟩
      refine ⟨_, rfl, b, _, 0, 0, rfl, rfl, hb, rfl, ?_⟩
      have hx : 0 ≤ x0 / m := Int.ediv_nonneg h0 (by omega)
      have hy : x0 / m ≤ x0 := Int.ediv_le_self m h0
      exact ⟨_, rfl, k _ _ (Int.emod_nonneg _ (by omega)) (Int.emod_lt_of_pos _ m0) ⟨_, _, _, rfl, hx, by omega, h2, h3, h4, by omega⟩⟩
    · refine ⟨_, rfl, b, _, 2, _, rfl, rfl, SqL.of hb, rfl, _, _, rfl, rfl, _, rfl, b, _, 2, 2, rfl, rfl, hb, rfl, ?_⟩
      have hb' : ∀ o, upd H b o b = some o := fun _ => upd_same
      refine ⟨_, rfl, b, _, 1, _, rfl, rfl, SqL.of upd_same, rfl, _, rfl, b, _, 2, _, rfl, rfl, SqL.of upd_same, rfl, _, _, rfl, rfl, .inl ⟨by decide, by decide⟩, _, rfl, b, _, 2, _, rfl, rfl, SqL.of upd_same, rfl, _, _, rfl, rfl, .inr ⟨by omega, by omega⟩, _, _, rfl, rfl, _, _, rfl, rfl, _, _, rfl, rfl, .inr ⟨by decide, by decide⟩, _, _, rfl, rfl, (by show (0 : Int) < 2305843009213693921; decide), ?_⟩
      have hq0 := Int.emod_nonneg ((x1 + 65551 * (x2 + 1) * (x2 + 1) + 17) * 48299) (b := 2305843009213693921) (by decide)
      have hq1 := Int.emod_lt_of_pos ((x1 + 65551 * (x2 + 1) * (x2 + 1) + 17) * 48299) (b := 2305843009213693921) (by decide)
      refine ⟨_, rfl, _, rfl, _, _, rfl, rfl, (by show (0 : Int) < 1000033; decide), _, rfl, b, _, 2, _, rfl, rfl, SqL.of upd_same, rfl, _, _, rfl, rfl, .inl ⟨by decide, by decide⟩, _, _, rfl, rfl, _, _, rfl, rfl, .inl ⟨by omega, by omega⟩, _, _, rfl, rfl, (by show (0 : Int) < 2305843009213693907; decide), ?_⟩
      refine ⟨_, rfl, _, _, rfl, rfl, ⟨by decide, by decide⟩, _, rfl, _, _, rfl, rfl, ⟨by decide, by decide⟩, _, _, rfl, rfl, _, rfl, _, _, rfl, rfl, m0, ?_⟩
      exact k _ _ (Int.emod_nonneg _ (by omega)) (Int.emod_lt_of_pos _ m0) ⟨_, _, _, rfl, h0, h1, h2, h3, by omega, by omega⟩
/-! ### _law_of -/
def spOf : Sp := fun vs H Q _ => ∃ (b p : Addr) (n : Int) (o : HO) (xs : List V), vs = [.ref b, .ref p] ∧ H b = some o ∧ BoxO n o ∧ n ≤ 1000000 ∧ H p = some (.lst xs) ∧ p ≠ b ∧ 0 < xs.length ∧ xs.length ≤ 1000 ∧
  ∀ (j : Nat) v o', xs[j]? = some v → BoxO (n + 1) o' → Q v (upd H b o')
theorem scOf : FnScope ["_law_box_here", "_law_some"] ["_law_box_here", "_law_some"] (defScope sOf) := ⟨rfl, rfl, rfl, by decide +kernel, rfl, by decide +kernel, by decide +kernel⟩
theorem ok_of {f f1 : Addr} {fd fd1 : FuncData} (A0 : At K mg "_law_of" sOf ["_law_box_here", "_law_some"] f fd) (A1 : At K mg "_law_take" sTake ["_law_box_here", "_law_many"] f1 fd1) (T : Txt K mg) :
    FnOk P w K mg base CX0 2 f fd ["_law_box_here", "_law_some"] spOf := by
  have G1 : FnOk P w K mg base CX0 1 f1 fd1 ["_law_box_here", "_law_many"] spTake := ok_take A1
  refine A0.fn.ok scOf (fun vs H Q E h => ?_) (fun cdv A outer s H vs Q E hr h => ?_)
  · obtain ⟨b, p, n, o, xs, rfl, _⟩ := h
    rfl
  · obtain ⟨b, p, n, o, xs, rfl, hb, B, hn, hp, npb, hl0, hl1, k⟩ := h
    refine ⟨_, pss_one (ps_ret (pe_ix ix_list (pv 1) (pe_call G1 hr (by rfl) A1.mg A1.fn.kp A1.bi .nil pass0 (pa_cons (pv 0) (pa_cons (pe_callB call_len_seq (by rfl) T.len PySem.boot_len (pa_cons (pv 1) pa_nil)) pa_nil))) (fun _ _ => rfl))), ?_⟩
    have big : (xs.length : Int) < 2 ^ 1000 := Int.lt_of_le_of_lt (show (xs.length : Int) ≤ 1000 by omega) (by decide +kernel)
    refine ⟨_, rfl, _, rfl, _, rfl, p, _, rfl, .inl (SqL.of hp), b, n, _, o, rfl, hb, B, hn, by omega, big, fun v o' v0 v1 B' => ?_⟩
    obtain ⟨j, rfl⟩ := Int.eq_ofNat_of_zero_le v0
    obtain ⟨x, hx⟩ : ∃ x, xs[j]? = some x := ⟨_, List.getElem?_eq_getElem (by omega)⟩
    exact ⟨p, xs, _, x, rfl, rfl, SqL.of (by rw [upd_ne npb]; exact hp), atI_nat hx, k j x o' hx B'⟩
/-! ### _law_odd_ones -/
def spOdd : Sp := fun vs H Q _ => ∃ n : Nat, vs = [.int (n : Int)] ∧ Q (.int (par n : Nat)) H
theorem scOdd : FnScope ["_law_number", "_law_found"] ["_law_number"] (defScope sOdd) := ⟨rfl, rfl, rfl, by decide +kernel, rfl, by decide +kernel, by decide +kernel⟩
theorem ok_odd {f : Addr} {fd : FuncData} (A0 : At K mg "_law_odd_ones" sOdd ["_law_number"] f fd) : FnOk P w K mg base CX0 1 f fd ["_law_number"] spOdd := by
  refine A0.fn.ok scOdd (fun vs H Q E h => ?_) (fun cdv A outer s H vs Q E hr h => ?_)
  · obtain ⟨n, rfl, _⟩ := h
    rfl
  · obtain ⟨n, rfl, k⟩ := h
    refine ⟨_, pss_cons (ps_set (i := 1) scOdd.nd rfl (Or.inl rfl) pe_int)
      (pss_cons (ps_while PassesOwn.never (pt_cmpR op_gt (pv 0) pe_int (nomark _)) (pss_one (ps_par (i := 1) (j := 0) (by rfl) scOdd.nd rfl rfl (by decide) rfl rfl
        (pa_cons (pe_op op_add (pv 1) (pe_op op_mod (pv 0) pe_int)) (pa_cons (pe_op op_fdiv (pv 0) pe_int) pa_nil)) (by rfl))))
      (pss_one (ps_ret (pe_op op_mod (pv 1) pe_int)))), ?_⟩
    refine while_by (fun σ H' => ∃ c m : Nat, σ = [some (.int (m : Int)), some (.int (c : Int))] ∧ H' = H ∧ c + pc m = pc n) (fun σ _ => match σ with | some (.int m) :: _ => m.toNat | _ => 0) ⟨0, n, rfl, rfl, by omega⟩ ?_ ?_
    · rintro σ H' ⟨c, m, rfl, rfl, e⟩
      refine ⟨_, rfl, _, _, rfl, rfl, _, rfl, ?_⟩
      refine ite2 (fun hm => ?_) (fun hm => ?_)
      · have hm := of_decide_eq_true hm
        refine ⟨_, rfl, _, rfl, _, _, rfl, rfl, (by show (0 : Int) < 2; decide), _, _, rfl, rfl, _, rfl, _, _, rfl, rfl, ⟨by decide, by decide⟩, _, _, rfl, ?_⟩
        have e1 := pc_eq m
        refine ⟨⟨c + m % 2, m / 2, ?_, rfl, by omega⟩, ?_⟩
        · show [some (V.int ((m : Int) / 2)), some (V.int ((c : Int) + (m : Int) % 2))] = _
          rw [Int.natCast_add, Int.natCast_emod, Int.natCast_ediv]
          rfl
        · show ((m : Int) / 2).toNat < ((m : Int)).toNat
          omega
      · have hm0 : m = 0 := by
          have : ¬ (0 : Int) < (m : Int) := fun z => hm (decide_eq_true z)
          omega
        subst hm0
        rw [pc_0] at e
        refine ⟨_, rfl, _, _, rfl, rfl, (by show (0 : Int) < 2; decide), ?_⟩
        refine qv ?_ k
        show V.int ((c : Int) % 2) = _
        unfold par
        rw [← e, Nat.add_zero, Int.natCast_emod]
        rfl
    · rintro σ H' Q1 Q2 hq ⟨v, e, i, j, e1, e2, z, e3, q⟩
      exact ⟨v, e, i, j, e1, e2, z, e3, hq _ _ q⟩
end
theorem at_map {ms : List Int} {i : Nat} {y : V} (h : (ms.map V.int)[i]? = some y) : ∃ m, ms[i]? = some m ∧ y = .int m ∧ i < ms.length ∧ ms.getD i 0 = m := by
  rw [List.getElem?_map] at h
  cases e : ms[i]? with
  | none =>
    rw [e] at h
    cases h
  | some m =>
    rw [e] at h
    cases h
    exact ⟨m, rfl, rfl, (List.getElem?_eq_some_iff.mp e).1, by rw [List.getD_eq_getElem?_getD, e]; rfl⟩
/-- a list of ints as data -/
theorem dpAll_ints {K : PySem.W.Frag} {H : Hp} : ∀ ns : List Int, DpAll K H (ns.map V.int) (ns.map PyData.int)
  | [] => .nil
  | n :: ns => .cons (.int n) (dpAll_ints ns)
theorem canLay_ints : ∀ ns : List Int, PyData.canLayAll0 (ns.map PyData.int) = true
  | [] => rfl
  | n :: ns => by
    show (PyData.canLay0 (.int n) && PyData.canLayAll0 (ns.map PyData.int)) = true
    rw [canLay_ints ns]
    rfl
theorem depth_ints : ∀ ns : List Int, PyData.depthAll (ns.map PyData.int) = 0
  | [] => rfl
  | n :: ns => by
    show max (PyData.depth (.int n)) (PyData.depthAll (ns.map PyData.int)) = 0
    rw [depth_ints ns]
    rfl
theorem shaped_ints (ns : List Int) : SeqAt.shaped (.list (ns.map PyData.int)) = true := by
  unfold SeqAt.shaped
  show (PyData.canLayAll0 (ns.map PyData.int) && decide (PyData.depthAll (ns.map PyData.int) + 1 ≤ 64)) = true
  rw [canLay_ints, depth_ints]
  rfl
theorem eqv_nil (ns : List Int) : PyData.eqv (.list (ns.map PyData.int)) (.list []) = decide (ns = []) := by
  cases ns with
  | nil => rfl
  | cons n ns => rfl
theorem xor_in {x y : Int} {k : Nat} (hx : 0 ≤ x ∧ x < 2 ^ k) (hy : 0 ≤ y ∧ y < 2 ^ k) : 0 ≤ Builtin.bitXor x y ∧ Builtin.bitXor x y < 2 ^ k := by
  rw [Bits.bitXor_pp hx.1 hy.1]
  have e : ((2 ^ k : Nat) : Int) = 2 ^ k := by rw [Int.natCast_pow]; rfl
  have h1 : x.toNat < 2 ^ k := by omega
  have h2 : y.toNat < 2 ^ k := by omega
  have := Nat.xor_lt_two_pow h1 h2
  omega
theorem InW.snoc {wd x : Int} {ns : List Int} (h : InW wd ns) (hx : 0 ≤ x ∧ x < 2 ^ wd.toNat) : InW wd (ns ++ [x]) := fun y hy => by
  rcases List.mem_append.mp hy with z | z
  · exact h y z
  · rw [List.mem_singleton.mp z]
    exact hx
theorem at_new {H : Hp} {p q : Addr} {o u : HO} (h : H p = some o) (hq : H q = none) : upd H q u p = some o := by
  rw [upd_ne (ne_of_none h hq)]
  exact h
theorem cut_ints (zs : List Int) (lo hi : Option Int) : ∃ cs : List Int, cutV (zs.map V.int) lo hi = cs.map V.int ∧ (∀ x ∈ cs, x ∈ zs) ∧ cs.length ≤ zs.length := by
  unfold cutV
  generalize HT.sIx (zs.map V.int).length 0 lo = a
  generalize HT.sIx (zs.map V.int).length (zs.map V.int).length hi = c
  refine ⟨(zs.drop a).take (c - a), by rw [List.map_take, List.map_drop], fun x hx => List.mem_of_mem_drop (List.mem_of_mem_take hx), ?_⟩
  rw [List.length_take, List.length_drop]
  omega
section
variable {P : Program} {w : World} {K : PySem.W.Frag} {mg : Str → Option Value} {base : Heap}
/-! ### _law_lot -/
def spLot : Sp := fun vs H Q _ => ∃ (b : Addr) (n sz m : Int) (o : HO), vs = [.ref b, .int sz, .int m] ∧ H b = some o ∧ BoxO n o ∧ n ≤ 900000 ∧ 1 ≤ sz ∧ sz ≤ 16 ∧ 0 ≤ m ∧ m ≤ 64 ∧
  ∀ (p : Addr) (ns : List Int) (H' : Hp) (o' : HO), H p = none → Sam b H H' → H' b = some o' → BoxO (n + 1 + 4 * m) o' → H' p = some (.tup (ns.map V.int)) → InW sz ns → (ns.length : Int) ≤ m → Q (.ref p) H'
theorem scLot : FnScope ["_law_box_here", "_law_size", "_law_most", "_law_found", "_law_turn", "_law_some"] ["_law_box_here", "_law_size", "_law_most"] (defScope sLot) := ⟨rfl, rfl, rfl, by decide +kernel, rfl, by decide +kernel, by decide +kernel⟩
theorem pw_le {sz : Int} (h1 : 1 ≤ sz) (h2 : sz ≤ 16) : (2 : Int) ≤ 2 ^ sz.toNat ∧ (2 : Int) ^ sz.toNat ≤ 65536 := by
  obtain ⟨k, rfl⟩ := Int.eq_ofNat_of_zero_le (show 0 ≤ sz by omega)
  have hk : k ≤ 16 := by omega
  have hk1 : 1 ≤ k := by omega
  have e : ∀ j : Nat, j < 17 → 1 ≤ j → (2 : Int) ≤ 2 ^ j ∧ (2 : Int) ^ j ≤ 65536 := by decide
  exact e k (by omega) hk1
theorem p2_lt {sz v : Int} (h1 : 1 ≤ sz) (v0 : 0 ≤ v) (v1 : v < sz) : 0 ≤ 1 * (2 : Int) ^ v.toNat ∧ 1 * (2 : Int) ^ v.toNat < 2 ^ sz.toNat := by
  rw [Int.one_mul]
  refine ⟨two_pow_nn _, ?_⟩
  have h : v.toNat < sz.toNat := by omega
  have e := Nat.pow_lt_pow_right (a := 2) (by decide) h
  have e1 : ∀ k : Nat, ((2 ^ k : Nat) : Int) = 2 ^ k := fun k => by rw [Int.natCast_pow]; rfl
  rw [← e1, ← e1]
  exact Int.ofNat_lt.mpr e
theorem ok_lot {f f1 f2 : Addr} {fd fd1 fd2 : FuncData} (A0 : At K mg "_law_lot" sLot ["_law_box_here", "_law_size", "_law_most"] f fd) (A1 : At K mg "_law_take" sTake ["_law_box_here", "_law_many"] f1 fd1)
    (A2 : At K mg "_law_of" sOf ["_law_box_here", "_law_some"] f2 fd2) (T : Txt K mg) : FnOk P w K mg base CX0 3 f fd ["_law_box_here", "_law_size", "_law_most"] spLot := by
  have G1 : FnOk P w K mg base CX0 1 f1 fd1 ["_law_box_here", "_law_many"] spTake := ok_take A1
  have G2 : FnOk P w K mg base CX0 2 f2 fd2 ["_law_box_here", "_law_some"] spOf := ok_of A2 A1 T
  refine A0.fn.ok scLot (fun vs H Q E h => ?_) (fun cdv A outer s H vs Q E hr h => ?_)
  · obtain ⟨b, n, sz, m, o, rfl, _⟩ := h
    rfl
  · obtain ⟨b, n, sz, m, o, rfl, hb, B, hn, s1, s2, m1, m2, k⟩ := h
    have hr1 : Room 1 _ := hr.mono (by decide)
    refine ⟨_, (pss_cons (ps_set (i := 3) scLot.nd rfl (Or.inl rfl) (pe_lst pa_nil))
        (pss_cons (ps_for PassesOwn.never rfl (pi_range1 (by rfl) T.range (pa_cons (pe_call G1 hr1 (by rfl) A1.mg A1.fn.kp A1.bi .nil pass0 (pa_cons (pv 0) (pa_cons (pe_op op_add (pv 2) pe_int) pa_nil))) pa_nil)) (pg_name (i := 4) scLot.nd rfl (Or.inl rfl))
        (pss_cons (ps_set (i := 5) scLot.nd rfl (Or.inl rfl) (pe_lst (pa_cons (pe_call G1 hr1 (by rfl) A1.mg A1.fn.kp A1.bi .nil pass0 (pa_cons (pv 0) (pa_cons (pe_op op_shl pe_int (pv 1)) pa_nil))) (pa_cons (pe_op op_shl pe_int (pe_call G1 hr1 (by rfl) A1.mg A1.fn.kp A1.bi .nil pass0 (pa_cons (pv 0) (pa_cons (pv 1) pa_nil)))) (pa_cons pe_int pa_nil)))))
        (pss_cons (ps_if (pt_cmpR (op_neD hr.units) (pv 3) (pe_lst pa_nil) (nomark _)) (pss_one (ps_set (i := 5) scLot.nd rfl (Or.inl rfl) (pe_op op_cat (pv 5) (pe_lst (pa_cons (pe_op op_xor (pe_ix ix_list (pv 3) (pe_un un_neg pe_int) (fun _ _ => rfl)) (pe_call G2 hr (by rfl) A2.mg A2.fn.kp A2.bi .nil pass0 (pa_cons (pv 0) (pa_cons (pv 3) pa_nil)))) pa_nil))))) pss_nil)
        (pss_one (ps_expr (pe_bm PySem.F.plainAttrs_list PySem.F.slot_list_append PySem.F.type_list_append mt_append (pv 3) (pa_cons (pe_call G2 hr (by rfl) A2.mg A2.fn.kp A2.bi .nil pass0 (pa_cons (pv 0) (pa_cons (pe_op op_cat (pv 5) (pe_slice sl_list (pv 5) po_none (po_some pe_int))) pa_nil))) pa_nil)))))))
        (pss_one (ps_ret (pe_callTy call_tuple_of (by rfl) T.tuple (by decide +kernel) (pa_cons (pv 3) pa_nil)))))), ?_⟩
    obtain ⟨p2a, p2b⟩ := pw_le s1 s2
    have big : ∀ {x : Int}, x ≤ 70000 → x < 2 ^ 1000 := fun h => Int.lt_of_le_of_lt h (by decide +kernel)
    refine ⟨Nat.zero_le _, fun l hl => ?_⟩
    have nbl : b ≠ l := ne_of_none hb hl
    refine ⟨_, rfl, _, rfl, _, _, rfl, rfl, b, n, _, o, rfl, by rw [upd_ne nbl]; exact hb, B, by omega, by omega, big (by omega), fun v o' v0 v1 B' => ?_⟩
    refine ⟨v, rfl, by omega, by omega, ?_⟩
    -- between two turns
    refine for_range (lo := 0) (n := v.toNat) (fun i σ H' => ∃ (ns : List Int) (o1 : HO) (t u : Option V), σ = [some (.ref b), some (.int sz), some (.int m), some (.ref l), t, u] ∧ Sam b H H' ∧ H' b = some o1 ∧ BoxO (n + 1 + 4 * (i : Int)) o1 ∧
        H' l = some (.lst (ns.map V.int)) ∧ InW sz ns ∧ ns.length = i) ⟨[], o', none, none, rfl, ?_, upd_same, by simpa using B', by rw [upd_ne nbl.symm]; exact upd_same, (fun x hx => by cases hx), rfl⟩ ?_ ?_
    · intro c u nc e
      rw [upd_ne nc, upd_ne (ne_of_none e hl)]
      exact e
    · rintro i σ H1 hi ⟨ns, o1, t, u, rfl, sm, hb1, B1, hl1, hin, hlen⟩
      have hil : i < 64 := by omega
      refine ⟨_, rfl, _, rfl, _, _, rfl, rfl, ⟨by omega, by omega, by decide⟩, b, _, _, o1, rfl, hb1, B1, by omega, by omega, big (by omega), fun v1 o2 w0 w1 B2 => ?_⟩
      refine ⟨_, rfl, _, rfl, b, _, sz, o2, rfl, upd_same, B2, by omega, by omega, big (by omega), fun v2 o3 x0 x1 B3 => ?_⟩
      refine ⟨_, _, rfl, rfl, ⟨x0, by omega, by decide⟩, by show 3 ≤ sizeLine; decide, fun q hq => ?_⟩
      have nlb : l ≠ b := nbl.symm
      have sm1 : Sam b H1 (upd (upd (upd H1 b o2) b o3) q (.lst [.int v1, .int (1 * 2 ^ v2.toNat), .int 0])) := (Sam.upd.trans Sam.upd).new hq
      have fb : (upd (upd (upd H1 b o2) b o3) q (.lst [.int v1, .int (1 * 2 ^ v2.toNat), .int 0])) b = some o3 := at_new upd_same hq
      have hin3 : InW sz [v1, 1 * 2 ^ v2.toNat, 0] := fun x hx => by
        rcases List.mem_cons.mp hx with rfl | hx
        · exact ⟨w0, by omega⟩
        · rcases List.mem_cons.mp hx with rfl | hx
          · exact p2_lt s1 x0 x1
          · rw [List.mem_singleton.mp hx]
            exact ⟨Int.le_refl 0, by omega⟩
      have nqb : q ≠ b := (ne_of_none (H := upd (upd H1 b o2) b o3) upd_same hq).symm
      have nql : q ≠ l := (ne_of_none (H := upd (upd H1 b o2) b o3) (by rw [upd_ne nlb, upd_ne nlb]; exact hl1) hq).symm
      refine ⟨_, rfl, Nat.zero_le _, fun e he => ?_⟩
      have fl := sm1 l _ nlb hl1
      have fr := (fun h => at_new (p := q) (o := .lst ([v1, 1 * 2 ^ v2.toNat, 0].map V.int)) (u := .lst []) h he) upd_same
      refine ⟨.list (ns.map PyData.int), .list [], .lst (SqL.of (at_new fl he)) (dpAll_ints ns), .lst (SqL.of upd_same) .nil, shaped_ints ns, shaped_ints [], _, rfl, ?_⟩
      have sm2 := sm1.new (o := .lst []) he
      have fb2 := at_new (u := .lst []) fb he
      have fl2 := at_new (u := .lst []) fl he
      refine ite2 (fun hz => ?g1) (fun hz => ?g2)
      case' g1 =>
        have hne : ns ≠ [] := fun z => by
          rw [eqv_nil, z] at hz
          cases hz
        obtain ⟨ys, y, ens⟩ : ∃ ys y, ns = ys ++ [y] := ⟨_, _, (List.dropLast_concat_getLast hne).symm⟩
        have hy := hin y (by rw [ens]; simp)
        refine ⟨_, rfl, _, rfl, _, rfl, l, _, _, V.int y, rfl, rfl, SqL.of fl2, (by rw [ens, List.map_append]; exact atI_last _ _), ?_⟩
        refine ⟨_, rfl, _, rfl, b, l, _, o3, _, rfl, fb2, B3, by omega, fl2, nlb, (by rw [ens]; simp), (by rw [List.length_map]; omega), fun j z o4 hj B4 => ?_⟩
        obtain ⟨x, ex, rfl, _, _⟩ := at_map hj
        have hx := hin x (List.mem_of_getElem? ex)
        have hxy := xor_in hy hx
        refine ⟨_, _, rfl, rfl, by show 1 ≤ sizeLine; decide, fun r hr' => ?_⟩
        have sm3 := (sm2.trans (Sam.upd (o := o4))).new (o := .lst [.int (Builtin.bitXor y x)]) hr'
        have fb3 := at_new (p := b) (o := o4) (u := .lst [.int (Builtin.bitXor y x)]) upd_same hr'
        have fl3 := sm3 l _ nlb hl1
        have fr3 := at_new (p := q) (u := .lst [.int (Builtin.bitXor y x)]) ((upd_ne nqb).trans fr) hr'
        refine ⟨q, r, _, [.int (Builtin.bitXor y x)], rfl, rfl, fr3, upd_same, by show 4 ≤ sizeLine; decide, fun p hp => ?_⟩
        have sm4 := sm3.new (o := .lst ([v1, 1 * 2 ^ v2.toNat, 0, Builtin.bitXor y x].map V.int)) hp
        have fb4 := at_new (u := .lst ([v1, 1 * 2 ^ v2.toNat, 0, Builtin.bitXor y x].map V.int)) fb3 hp
        have fl4 := at_new (u := .lst ([v1, 1 * 2 ^ v2.toNat, 0, Builtin.bitXor y x].map V.int)) fl3 hp
        have npb : p ≠ b := (ne_of_none fb3 hp).symm
        have npl : p ≠ l := (ne_of_none fl3 hp).symm
        have inz : InW sz [v1, 1 * 2 ^ v2.toNat, 0, Builtin.bitXor y x] := hin3.snoc (ns := [v1, 1 * 2 ^ v2.toNat, 0]) hxy
        have fz : ∀ H' : Hp, upd H' p (.lst ([v1, 1 * 2 ^ v2.toNat, 0, Builtin.bitXor y x].map V.int)) p = some (.lst ([v1, 1 * 2 ^ v2.toNat, 0, Builtin.bitXor y x].map V.int)) := fun _ => upd_same
        obtain ⟨cs, ec, hcs, lcs⟩ := cut_ints [v1, 1 * 2 ^ v2.toNat, 0, Builtin.bitXor y x] none (some 2)
        refine ⟨_, rfl, .inl ⟨rfl, _, SqL.of fl4⟩, _, rfl, _, rfl, _, rfl, _, rfl, p, _, rfl, SqL.of (fz _), fun c hc => ?_⟩
        refine ⟨p, c, _, _, rfl, rfl, at_new (fz _) hc, upd_same, (by rw [ec, List.length_map, List.length_map]; exact Nat.le_trans (Nat.add_le_add (Nat.le_refl 4) lcs) (by show 4 + 4 ≤ sizeLine; decide)), fun d hd => ?_⟩
        have sm5 := (sm4.new (o := .lst (cutV ([v1, 1 * 2 ^ v2.toNat, 0, Builtin.bitXor y x].map V.int) none (some 2))) hc).new (o := .lst ([v1, 1 * 2 ^ v2.toNat, 0, Builtin.bitXor y x].map V.int ++ cutV ([v1, 1 * 2 ^ v2.toNat, 0, Builtin.bitXor y x].map V.int) none (some 2))) hd
        have fb5 := (fun h => at_new (p := b) (o := o4) (u := .lst ([v1, 1 * 2 ^ v2.toNat, 0, Builtin.bitXor y x].map V.int ++ cutV ([v1, 1 * 2 ^ v2.toNat, 0, Builtin.bitXor y x].map V.int) none (some 2))) h hd) (at_new fb4 hc)
        have ndb : d ≠ b := (fun h => (ne_of_none (a := b) (o := o4) h hd).symm) (at_new fb4 hc)
      case' g2 =>
        have fz := fr
        obtain ⟨cs, ec, hcs, lcs⟩ := cut_ints [v1, 1 * 2 ^ v2.toNat, 0] none (some 2)
        refine ⟨_, rfl, .inl ⟨rfl, _, SqL.of fl2⟩, _, rfl, _, rfl, _, rfl, _, rfl, q, _, rfl, SqL.of fz, fun c hc => ?_⟩
        refine ⟨q, c, _, _, rfl, rfl, at_new fz hc, upd_same, (by rw [ec, List.length_map, List.length_map]; exact Nat.le_trans (Nat.add_le_add (Nat.le_refl 3) lcs) (by show 3 + 3 ≤ sizeLine; decide)), fun d hd => ?_⟩
        have sm5 := (sm2.new (o := .lst (cutV ([v1, 1 * 2 ^ v2.toNat, 0].map V.int) none (some 2))) hc).new (o := .lst ([v1, 1 * 2 ^ v2.toNat, 0].map V.int ++ cutV ([v1, 1 * 2 ^ v2.toNat, 0].map V.int) none (some 2))) hd
        have fb5 := (fun h => at_new (p := b) (o := o3) (u := .lst ([v1, 1 * 2 ^ v2.toNat, 0].map V.int ++ cutV ([v1, 1 * 2 ^ v2.toNat, 0].map V.int) none (some 2))) h hd) (at_new fb2 hc)
        have ndb : d ≠ b := (fun h => (ne_of_none (a := b) (o := o3) h hd).symm) (at_new fb2 hc)
        have B4 := B3.mono (show n + 1 + 4 * (i : Int) + 1 + 1 ≤ n + 1 + 4 * (i : Int) + 1 + 1 + 1 by omega)
        have inz := hin3
      all_goals
        have fl5 := sm5 l _ nlb hl1
        refine ⟨b, d, _, _, _, rfl, fb5, B4, by omega, upd_same, ndb, by simp, (by rw [ec, List.length_append, List.length_map, List.length_map]; simp at lcs ⊢; omega), fun j z o5 hj B5 => ?_⟩
        rw [ec, ← List.map_append] at hj
        obtain ⟨y', ey, rfl, _, _⟩ := at_map hj
        have hyy : 0 ≤ y' ∧ y' < 2 ^ sz.toNat := by
          rcases List.mem_append.mp (List.mem_of_getElem? ey) with z | z
          · exact inz _ z
          · exact inz _ (hcs _ z)
        refine ⟨l, _, _, rfl, rfl, (upd_ne nlb).trans fl5, (by rw [List.length_map, hlen]; exact Nat.lt_trans hil (by decide)), ?_⟩
        refine ⟨ns ++ [y'], o5, _, _, rfl, ?_, (by rw [upd_ne nbl]; exact upd_same), B5.mono (by omega), (by rw [upd_same, List.map_append]; rfl), hin.snoc hyy, (by rw [List.length_append, hlen]; rfl)⟩
        intro c' u' nc e'
        rw [upd_ne (ne_of_none e' hl), upd_ne nc]
        exact sm5 c' u' nc (sm c' u' nc e')
    · rintro σ H1 ⟨ns, o1, t, u, rfl, sm, hb1, B1, hl1, hin, hlen⟩
      refine ⟨_, rfl, l, _, rfl, .inl ⟨SqL.of hl1, fun p hp => ?_⟩⟩
      have nlp : l ≠ p := ne_of_none hl1 hp
      refine k p ns _ o1 ?_ (sm.new hp) (by rw [upd_ne (ne_of_none hb1 hp)]; exact hb1) (B1.mono (by omega)) upd_same hin (by omega)
      cases e : H p with
      | none => rfl
      | some u =>
        have npb : p ≠ b := fun z => by subst z; rw [hb1] at hp; cases hp
        rw [sm p u npb e] at hp
        cases hp
def spPlace (K : PySem.W.Frag) : Sp := fun vs H Q _ => ∃ (p : Addr) (ms : List Int) (a : Int), vs = [.ref p, .int a] ∧ H p = some (.tup (ms.map V.int)) ∧ ms.length ≤ 64 ∧ 0 ≤ a ∧ (∀ m ∈ ms, 0 ≤ m) ∧
  ∀ H', Same H H' → Q (.int (bankOf ms a)) H'
theorem scPlace : FnScope ["_law_plan_here", "_law_spot", "_law_at", "_law_one"] ["_law_plan_here", "_law_spot"] (defScope sPlace) := ⟨rfl, rfl, rfl, by decide +kernel, rfl, by decide +kernel, by decide +kernel⟩
theorem ok_place {f f1 : Addr} {fd fd1 : FuncData} (A0 : At K mg "_law_place" sPlace ["_law_plan_here", "_law_spot"] f fd) (A1 : At K mg "_law_odd_ones" sOdd ["_law_number"] f1 fd1) (T : Txt K mg) :
    FnOk P w K mg base CX0 2 f fd ["_law_plan_here", "_law_spot"] (spPlace K) := by
  have G1 : FnOk P w K mg base CX0 1 f1 fd1 ["_law_number"] spOdd := ok_odd A1
  refine A0.fn.ok scPlace (fun vs H Q E h => ?_) (fun cdv A outer s H vs Q E hr h => ?_)
  · obtain ⟨p, ms, a, rfl, _⟩ := h
    rfl
  · obtain ⟨p, ms, a, rfl, hp, hl, ha, hms, k⟩ := h
    refine ⟨_, pss_one (ps_ret (pe_callB (cr_sum rfl) (by rfl) T.sum (by decide +kernel) (pa_cons (pe_lc (own := [("_law_at", 2), ("_law_one", 3)]) (tt := tYes) rfl scPlace.nd
      (G.pi_enumT (by rfl) T.enum (pa_cons (pv 0) pa_nil)) (blkOk_by (N := ["_law_plan_here", "_law_spot", "_law_at", "_law_one"]) (sc := defScope sPlace) (by decide +kernel))
      (g := gTup K 2 (gCons (gName 2) (gCons (gName 3) gNil))) (fun _ _ _ _ _ => by exact pg_tup rfl (pgs_cons (pg_name (i := 2) scPlace.nd rfl (Or.inl rfl)) (pgs_cons (pg_name (i := 3) scPlace.nd rfl (Or.inl rfl)) pgs_nil))) (fun _ _ _ _ _ => pts_nil)
      (fun _ _ _ _ _ => pe_op op_shl (pe_call G1 hr (by rfl) A1.mg A1.fn.kp A1.bi .nil pass0 (pa_cons (pe_op op_and (pv 1) (pv 3)) pa_nil)) (pv 2))) pa_nil))), ?_⟩
    refine ⟨_, rfl, p, _, rfl, SqT.of hp, fun D hD => ?_⟩
    have npD : p ≠ D := ne_of_none hp hD
    refine lc_it (G.walk_enumT (K := K) (a := p) (xs := ms.map V.int)) (fun i H' => (∀ b o, b ≠ D → H b = some o → H' b = some o) ∧ H' D = some (.lst (((bits ms a).take i).map V.int))) ⟨fun b o n e => by rw [upd_ne n]; exact e, upd_same⟩
      (fun i H' _ ⟨s1, _⟩ => SqT.of (s1 _ _ npD hp)) ?_ ?_
    · rintro i x H1 H2 hi ⟨s1, hd⟩ ⟨Tp, x1, x2, rfl, hT, rfl, e1, e2⟩
      cases e1
      obtain ⟨m, em, rfl, hil, eg⟩ := at_map e2
      have hm := hms m (List.mem_of_getElem? em)
      have nTD : D ≠ Tp := ne_of_none hd hT
      refine ⟨Tp, _, rfl, SqT.of upd_same, rfl, _, _, rfl, _, _, rfl, rfl, rfl, yes (iteT ?_)⟩
      refine ⟨_, rfl, _, rfl, _, _, rfl, rfl, (a.toNat &&& m.toNat), ?_, _, rfl, _, _, rfl, rfl, ⟨by omega, by omega, ?_⟩, _, by rw [upd_ne nTD]; exact hd, ?_, ?_⟩
      · show [V.int (Builtin.bitAnd a m)] ++ [] = _
        rw [PyProof.Rows.bitAnd_pp ha hm]
        rfl
      · have := par_lt (a.toNat &&& m.toNat)
        omega
      · rw [List.length_map, List.length_take, bits_length]
        exact Nat.lt_of_le_of_lt (Nat.min_le_left _ _) (Nat.lt_trans hil (Nat.lt_of_le_of_lt hl (by decide)))
      · refine ⟨fun b o n e => ?_, ?_⟩
        · rw [upd_ne n, upd_ne (ne_of_none (s1 b o n e) hT)]
          exact s1 b o n e
        · rw [upd_same, ← bits_next ms a hil, List.map_append]
          unfold bitOf
          rw [eg]
          rfl
    · rintro H' ⟨s1, hd⟩
      rw [List.length_map, List.take_of_length_le (by rw [bits_length]; exact Nat.le_refl _)] at hd
      exact ⟨D, _, rfl, SqL.of hd, k H' fun b o e => s1 b o (ne_of_none e hD) e⟩
/-! ### _law_plan -/
theorem scPlan : FnScope ["_law_box_here", "_law_size", "_law_many"] ["_law_box_here", "_law_size", "_law_many"] (defScope sPlan) := ⟨rfl, rfl, rfl, by decide +kernel, rfl, by decide +kernel, by decide +kernel⟩
theorem ok_plan {f f1 f2 f3 : Addr} {fd fd1 fd2 fd3 : FuncData} (A0 : At K mg "_law_plan" sPlan ["_law_box_here", "_law_size", "_law_many"] f fd) (A1 : At K mg "_law_take" sTake ["_law_box_here", "_law_many"] f1 fd1)
    (A2 : At K mg "_law_of" sOf ["_law_box_here", "_law_some"] f2 fd2) (A3 : At K mg "_law_lot" sLot ["_law_box_here", "_law_size", "_law_most"] f3 fd3) (T : Txt K mg) : FnOk P w K mg base CX0 4 f fd ["_law_box_here", "_law_size", "_law_many"] spLot := by
  have G3 : FnOk P w K mg base CX0 3 f3 fd3 ["_law_box_here", "_law_size", "_law_most"] spLot := ok_lot A3 A1 A2 T
  refine A0.fn.ok scPlan (fun vs H Q E h => ?_) (fun cdv A outer s H vs Q E hr h => ?_)
  · obtain ⟨b, n, sz, m, o, rfl, _⟩ := h
    rfl
  · obtain ⟨b, n, sz, m, o, rfl, rest⟩ := h
    refine ⟨_, pss_one (ps_ret (pe_call G3 hr (by rfl) A3.mg A3.fn.kp A3.bi .nil pass0 (pa_cons (pv 0) (pa_cons (pv 1) (pa_cons (pv 2) pa_nil))))), ?_⟩
    exact ⟨_, rfl, _, rfl, _, rfl, b, n, sz, m, o, rfl, rest⟩
end
end X1
set_option Elab.async false
set_option maxRecDepth 100000
set_option maxHeartbeats 4000000
namespace X1
open PySem L2
open GF (pc par pc_0 pc_eq par_lt InS Can Red Orth)
/-- numbers as values -/
def nv (l : List Nat) : List V := l.map fun n : Nat => V.int (n : Int)
theorem nv_len (l : List Nat) : (nv l).length = l.length := List.length_map ..
theorem nv_at {l : List Nat} {i : Nat} {y : V} (h : (nv l)[i]? = some y) : ∃ n, l[i]? = some n ∧ y = .int (n : Int) ∧ i < l.length := by
  unfold nv at h
  rw [List.getElem?_map] at h
  cases e : l[i]? with
  | none =>
    rw [e] at h
    cases h
  | some m =>
    rw [e] at h
    cases h
    exact ⟨m, rfl, rfl, (List.getElem?_eq_some_iff.mp e).1⟩
theorem nv_of {sz : Int} {ns : List Int} (h : InW sz ns) : ∃ ms : List Nat, ns.map V.int = nv ms ∧ ms.length = ns.length ∧ ∀ m ∈ ms, m < 2 ^ sz.toNat := by
  refine ⟨ns.map Int.toNat, ?_, List.length_map .., fun m hm => ?_⟩
  · unfold nv
    rw [List.map_map]
    refine List.map_congr_left fun x hx => ?_
    show V.int x = V.int ((x.toNat : Nat) : Int)
    rw [Int.toNat_of_nonneg (h x hx).1]
  · obtain ⟨x, hx, rfl⟩ := List.mem_map.mp hm
    have := h x hx
    have e : ((2 ^ sz.toNat : Nat) : Int) = 2 ^ sz.toNat := by rw [Int.natCast_pow]; rfl
    omega
theorem nv_ints (l : List Nat) : nv l = (l.map fun n : Nat => (n : Int)).map V.int := by
  unfold nv
  rw [List.map_map]
  rfl
theorem min_cast (a b : Nat) : (if ((Builtin.bitXor (a : Int) (b : Int)) < (a : Int)) then Builtin.bitXor (a : Int) (b : Int) else (a : Int)) = ((min a (a ^^^ b) : Nat) : Int) := by
  rw [Bits.bitXor_pp (Int.natCast_nonneg a) (Int.natCast_nonneg b)]
  show (if ((a ^^^ b : Nat) : Int) < (a : Int) then ((a ^^^ b : Nat) : Int) else (a : Int)) = _
  split <;> omega
section
variable {P : Program} {w : World} {K : PySem.W.Frag} {mg : Str → Option Value} {base : Heap}
/-! ### remainder, of rows in a list -/
def spRem (K : PySem.W.Frag) : Sp := fun vs H Q _ => ∃ (p : Addr) (rs : List Nat) (v : Nat), vs = [.ref p, .int (v : Int)] ∧ SqL K H p (nv rs) ∧ Q (.int (GF.rem rs v : Nat)) H
theorem scRem : FnScope ["rows", "vector", "row"] ["rows", "vector"] (defScope sRem) := ⟨rfl, rfl, rfl, by decide +kernel, rfl, by decide +kernel, by decide +kernel⟩
theorem rem_next {rs : List Nat} {i r : Nat} (v : Nat) (h : rs[i]? = some r) : GF.rem (rs.take (i + 1)) v = min (GF.rem (rs.take i) v) (GF.rem (rs.take i) v ^^^ r) := by
  unfold GF.rem
  rw [List.take_add_one, h, List.foldl_append]
  rfl
theorem ok_rem {f : Addr} {fd : FuncData} (A0 : At K mg "remainder" sRem ["rows", "vector"] f fd) (T : Txt K mg) : FnOk P w K mg base CX0 1 f fd ["rows", "vector"] (spRem K) := by
  refine A0.fn.ok scRem (fun vs H Q E h => ?_) (fun cdv A outer s H vs Q E hr h => ?_)
  · obtain ⟨p, rs, v, rfl, _⟩ := h
    rfl
  · obtain ⟨p, rs, v, rfl, hp, k⟩ := h
    refine ⟨_, pss_cons (ps_for PassesOwn.never rfl (pi_list (pv 0)) (pg_name (i := 2) scRem.nd rfl (Or.inl rfl))
        (pss_one (ps_set (i := 1) scRem.nd rfl (Or.inl rfl) (pe_callB (call_min2 rfl) (by rfl) T.min (by decide +kernel) (pa_cons (pv 1) (pa_cons (pe_op op_xor (pv 1) (pv 2)) pa_nil))))))
      (pss_one (ps_ret (pv 1))), ?_⟩
    refine ⟨_, rfl, p, rfl, ⟨_, hp⟩, ?_⟩
    refine for_list (K := K) (a := p) (xs := nv rs) (fun i σ H' => ∃ t, σ = [some (.ref p), some (.int (GF.rem (rs.take i) v : Nat)), t] ∧ H' = H) ⟨none, rfl, rfl⟩ (fun i σ H' _ ⟨_, _, e⟩ => e ▸ hp) ?_ ?_
    · rintro i y σ H' hy ⟨t, rfl, rfl⟩
      obtain ⟨r, er, rfl, hi⟩ := nv_at hy
      refine ⟨_, rfl, _, rfl, _, rfl, _, _, rfl, rfl, _, _, rfl, ?_⟩
      refine ⟨some (.int (r : Int)), ?_, rfl⟩
      rw [rem_next v er, ← min_cast]
      rfl
    · rintro σ H' ⟨t, rfl, rfl⟩
      rw [nv_len, List.take_length]
      exact ⟨_, rfl, k⟩
def spRemT (K : PySem.W.Frag) : Sp := fun vs H Q _ => ∃ (p : Addr) (rs : List Nat) (v : Nat), vs = [.ref p, .int (v : Int)] ∧ SqT K H p (nv rs) ∧ Q (.int (GF.rem rs v : Nat)) H
theorem ok_remT {f : Addr} {fd : FuncData} (A0 : At K mg "remainder" sRem ["rows", "vector"] f fd) (T : Txt K mg) : FnOk P w K mg base CX0 1 f fd ["rows", "vector"] (spRemT K) := by
  refine A0.fn.ok scRem (fun vs H Q E h => ?_) (fun cdv A outer s H vs Q E hr h => ?_)
  · obtain ⟨p, rs, v, rfl, _⟩ := h
    rfl
  · obtain ⟨p, rs, v, rfl, hp, k⟩ := h
    refine ⟨_, pss_cons (ps_for PassesOwn.never rfl (pi_tup (pv 0)) (pg_name (i := 2) scRem.nd rfl (Or.inl rfl))
        (pss_one (ps_set (i := 1) scRem.nd rfl (Or.inl rfl) (pe_callB (call_min2 rfl) (by rfl) T.min (by decide +kernel) (pa_cons (pv 1) (pa_cons (pe_op op_xor (pv 1) (pv 2)) pa_nil))))))
      (pss_one (ps_ret (pv 1))), ?_⟩
    refine ⟨_, rfl, p, rfl, ⟨_, hp⟩, ?_⟩
    refine for_tup (K := K) (a := p) (xs := nv rs) (fun i σ H' => ∃ t, σ = [some (.ref p), some (.int (GF.rem (rs.take i) v : Nat)), t] ∧ H' = H) ⟨none, rfl, rfl⟩ (fun i σ H' _ ⟨_, _, e⟩ => e ▸ hp) ?_ ?_
    · rintro i y σ H' hy ⟨t, rfl, rfl⟩
      obtain ⟨r, er, rfl, hi⟩ := nv_at hy
      refine ⟨_, rfl, _, rfl, _, rfl, _, _, rfl, rfl, _, _, rfl, ?_⟩
      refine ⟨some (.int (r : Int)), ?_, rfl⟩
      rw [rem_next v er, ← min_cast]
      rfl
    · rintro σ H' ⟨t, rfl, rfl⟩
      rw [nv_len, List.take_length]
      exact ⟨_, rfl, k⟩
/-! ### reduced -/
theorem sort_nats {L' : List Int} {rs : List Nat} (p : L'.Perm (rs.map fun n : Nat => (n : Int))) (hs : L'.Pairwise (· ≤ ·)) : ∃ L : List Nat, L'.map V.int = nv L ∧ L.Perm rs ∧ L.Pairwise (· ≤ ·) := by
  have h0 : ∀ x ∈ L', 0 ≤ x := fun x hx => by
    obtain ⟨n, _, rfl⟩ := List.mem_map.mp (p.mem_iff.mp hx)
    exact Int.natCast_nonneg n
  refine ⟨L'.map Int.toNat, ?_, ?_, ?_⟩
  · unfold nv
    rw [List.map_map]
    refine List.map_congr_left fun x hx => ?_
    show V.int x = V.int ((x.toNat : Nat) : Int)
    rw [Int.toNat_of_nonneg (h0 x hx)]
  · have e : ∀ l : List Nat, (l.map fun n : Nat => (n : Int)).map Int.toNat = l := fun l => by
      induction l with
      | nil => rfl
      | cons a l ih =>
        rw [List.map_cons, List.map_cons, ih]
        rfl
    have := p.map Int.toNat
    rw [e] at this
    exact this
  · rw [List.pairwise_map]
    exact List.Pairwise.imp_of_mem (fun {a b} ha hb h => Int.toNat_le_toNat h) hs
def spRed (K : PySem.W.Frag) (tup : Bool) : Sp := fun vs H Q _ => ∃ (p : Addr) (vv : List Nat), vs = [.ref p] ∧ (if tup = true then SqT K H p (nv vv) else SqL K H p (nv vv)) ∧ vv.length ≤ 1000 ∧
  ∀ (q : Addr) (L : List Nat) (H' : Hp), H q = none → Same H H' → H' q = some (.tup (nv L)) → Can (InS vv) L → Red L → L.length ≤ vv.length → (∀ x, InS L x ↔ InS vv x) → Q (.ref q) H'
theorem scRed : FnScope ["vectors", "rows", "vector", "rest", "row"] ["vectors"] (defScope sRed) := ⟨rfl, rfl, rfl, by decide +kernel, rfl, by decide +kernel, by decide +kernel⟩
theorem red_next {vv : List Nat} {i v : Nat} (h : vv[i]? = some v) : GF.red0 (vv.take (i + 1)) = GF.step (GF.red0 (vv.take i)) v := by
  unfold GF.red0
  rw [List.take_add_one, h, List.foldl_append]
  rfl
theorem step_len (rows : List Nat) (v : Nat) : (GF.step rows v).length ≤ rows.length + 1 := by
  unfold GF.step
  split
  · rw [List.length_append, List.length_map]
    exact Nat.le_refl _
  · omega
theorem keep_new {H H1 : Hp} {p : Addr} {o : HO} (s : Same H H1) (hp : H1 p = none) : Same H (upd H1 p o) := fun c u e => by
  rw [upd_ne (ne_of_none (s c u e) hp)]
  exact s c u e
theorem new_at {H : Hp} {p q : Addr} {o u : HO} (h : H p = some o) (hq : H q = none) : upd H q u p = some o := by
  rw [upd_ne (ne_of_none h hq)]
  exact h
theorem sameT {K : PySem.W.Frag} {H H' : Hp} {a : Addr} {xs : List V} (e : Same H H') (h : SqT K H a xs) : SqT K H' a xs := by
  rcases h with (h | ⟨o, h⟩) | h
  · exact .inl (.inl (e _ _ h))
  · exact .inl (.inr ⟨o, e _ _ h⟩)
  · exact .inr h
theorem ok_redT {f f1 : Addr} {fd fd1 : FuncData} (A0 : At K mg "reduced" sRed ["vectors"] f fd) (A1 : At K mg "remainder" sRem ["rows", "vector"] f1 fd1) (T : Txt K mg) : FnOk P w K mg base CX0 2 f fd ["vectors"] (spRed K true) := by
  have G1 : FnOk P w K mg base CX0 1 f1 fd1 ["rows", "vector"] (spRem K) := ok_rem A1 T
  refine A0.fn.ok scRed (fun vs H Q E h => ?_) (fun cdv A outer s H vs Q E hr h => ?_)
  · obtain ⟨p, vv, rfl, _⟩ := h
    rfl
  · obtain ⟨p, vv, rfl, hp, hl, k⟩ := h
    have hp : SqT K H p (nv vv) := hp
    refine ⟨_, (pss_cons (ps_set (i := 1) scRed.nd rfl (Or.inl rfl) (pe_lst pa_nil))
      (pss_cons (ps_for PassesOwn.never rfl (pi_tup (pv 0)) (pg_name (i := 2) scRed.nd rfl (Or.inl rfl)) (pss_cons (ps_set (i := 3) scRed.nd rfl (Or.inr rfl) (pe_call G1 hr (by rfl) A1.mg A1.fn.kp A1.bi .nil pass0 (pa_cons (pv 1) (pa_cons (pv 2) pa_nil))))
      (pss_one (ps_if (pt_cmpR op_gt (pv 3) pe_int (nomark _)) (pss_cons (ps_setLc (i := 1) (own := [("row", 4)]) (g := gName 4) (tt := tYes) rfl scRed.nd rfl rfl (sw_true rfl rfl rfl (by decide +kernel)) (pi_list (pv 1)) (blkOk_by (N := ["vectors", "rows", "vector", "rest", "row"]) (sc := defScope sRed) (by decide +kernel)) (fun _ _ _ _ _ => pg_name (i := 4) scRed.nd rfl (Or.inl rfl)) (fun _ _ _ _ _ => pts_nil) (fun _ _ _ _ _ => pe_callB (call_min2 rfl) (by rfl) T.min (by decide +kernel) (pa_cons (pv 4) (pa_cons (pe_op op_xor (pv 4) (pv 3)) pa_nil))))
      (pss_one (ps_expr (pe_bm PySem.F.plainAttrs_list PySem.F.slot_list_append PySem.F.type_list_append mt_append (pv 1) (pa_cons (pv 3) pa_nil))))) pss_nil))))
      (pss_one (ps_ret (pe_callTy call_tuple_of (by rfl) T.tuple (by decide +kernel) (pa_cons (pe_callB cr_sortedI (by rfl) T.sorted (by decide +kernel) (pa_cons (pv 1) pa_nil)) pa_nil)))))), ?_⟩
    refine ⟨Nat.zero_le _, fun l hl0 => ?_⟩
    refine ⟨_, rfl, p, rfl, ⟨_, sameT (keep_new (Same.refl H) hl0) hp⟩, ?_⟩
    refine for_tup (K := K) (a := p) (xs := nv vv) (fun i σ H' => ∃ (l : Addr) (t2 t3 t4 : Option V), σ = [some (.ref p), some (.ref l), t2, t3, t4] ∧ Same H H' ∧ H l = none ∧ H' l = some (.lst (nv (GF.red0 (vv.take i)))) ∧ (GF.red0 (vv.take i)).length ≤ i)
      ⟨l, none, none, none, rfl, keep_new (Same.refl H) hl0, hl0, upd_same, Nat.le_refl _⟩ (fun i σ H' _ ⟨_, _, _, _, _, sm, _⟩ => sameT sm hp) ?_ ?_
    · rintro i y σ H1 hy ⟨l, t2, t3, t4, rfl, sm, nl, hl1, hlen⟩
      obtain ⟨v, ev, rfl, hi⟩ := nv_at hy
      have R := GF.red0_red (vv.take i)
      rw [red_next ev]
      refine ⟨_, rfl, _, rfl, l, _, v, rfl, SqL.of hl1, ?_⟩
      refine ⟨_, rfl, _, _, rfl, rfl, _, rfl, ?_⟩
      refine ite2 (fun hpos => ?_) (fun hpos => ?_)
      · have hpos : 0 < GF.rem (GF.red0 (vv.take i)) v := by
          have := of_decide_eq_true hpos
          omega
        refine ⟨_, rfl, l, rfl, ⟨_, SqL.of hl1⟩, fun D hD => ?_⟩
        have nlD : l ≠ D := ne_of_none hl1 hD
        refine lc_list (K := K) (a := l) (xs := nv (GF.red0 (vv.take i))) (fun j H' => (∀ c u, c ≠ D → H1 c = some u → H' c = some u) ∧ H' D = some (.lst (nv (((GF.red0 (vv.take i)).take j).map fun r => min r (r ^^^ GF.rem (GF.red0 (vv.take i)) v))))) ⟨fun c u n e => by rw [upd_ne n]; exact e, upd_same⟩ (fun j H' _ ⟨s1, _⟩ => SqL.of (s1 l _ nlD hl1)) ?_ ?_
        · rintro j x H2 hx ⟨s1, hd⟩
          obtain ⟨r, er, rfl, hj⟩ := nv_at hx
          refine ⟨rfl, yes (iteT ?_)⟩
          refine ⟨_, rfl, _, rfl, _, rfl, _, _, rfl, rfl, _, _, rfl, _, hd, ?_, ?_, ?_⟩
          · rw [nv_len, List.length_map, List.length_take]
            exact Nat.lt_of_le_of_lt (Nat.le_trans (Nat.min_le_left _ _) (Nat.le_trans (Nat.le_of_lt hj) (Nat.le_trans hlen (Nat.le_trans (Nat.le_of_lt hi) hl)))) (by decide)
          · exact fun c u n e => by rw [upd_ne n]; exact s1 c u n e
          · rw [upd_same, List.take_add_one, er, List.map_append]
            show some (HO.lst (nv _ ++ [V.int (if Builtin.bitXor (r : Int) _ < (r : Int) then _ else _)])) = _
            rw [min_cast]
            unfold nv
            rw [List.map_append]
            rfl
        · rintro H2 ⟨s1, hd⟩
          rw [nv_len, List.take_length] at hd
          have sm2 : Same H H2 := fun c u e => s1 c u (ne_of_none (sm c u e) hD) (sm c u e)
          have nD : H D = none := by
            cases e : H D with
            | none => rfl
            | some u =>
              rw [sm _ _ e] at hD
              cases hD
          refine ⟨_, rfl, .inl ⟨rfl, _, SqL.of hd⟩, _, rfl, D, _, _, rfl, rfl, hd, ?_, ?_⟩
          · rw [nv_len, List.length_map]
            exact Nat.lt_of_le_of_lt (Nat.le_trans hlen (Nat.le_trans (Nat.le_of_lt hi) hl)) (by decide)
          · refine ⟨D, _, _, _, rfl, fun c u e => ?_, nD, ?_, ?_⟩
            · rw [upd_ne (ne_of_none e nD)]
              exact sm2 c u e
            · rw [upd_same]
              unfold GF.step
              rw [if_pos hpos]
              unfold nv
              rw [List.map_append]
              rfl
            · exact Nat.le_trans (step_len _ _) (Nat.succ_le_succ hlen)
      · have hz : ¬ 0 < GF.rem (GF.red0 (vv.take i)) v := fun z => hpos (decide_eq_true (by omega))
        refine ⟨l, _, _, _, rfl, sm, nl, ?_, ?_⟩
        · unfold GF.step
          rw [if_neg hz]
          exact hl1
        · exact Nat.le_trans (step_len _ _) (Nat.succ_le_succ hlen)
    · rintro σ H1 ⟨l, t2, t3, t4, rfl, sm, nl, hl1, hlen⟩
      rw [nv_len, List.take_length] at hl1 hlen
      refine ⟨_, rfl, l, _, rfl, SqL.of (by rw [← nv_ints]; exact hl1), fun L' q pm hs hq => ?_⟩
      obtain ⟨L, eL, pL, sL⟩ := sort_nats pm hs
      obtain ⟨C, RL⟩ := GF.sorted_can pL sL
      refine ⟨q, _, rfl, .inl ⟨SqL.of upd_same, fun t ht => ?_⟩⟩
      have smq := keep_new (o := .lst (L'.map V.int)) sm hq
      have nt : H t = none := by
        cases e : H t with
        | none => rfl
        | some u =>
          rw [smq _ _ e] at ht
          cases ht
      exact k t L _ nt (keep_new smq ht) (by rw [upd_same, eL]) C RL (by rw [pL.length_eq]; exact hlen) fun x => (GF.span_perm pL x).trans (GF.red0_span vv x)
theorem ok_redL {f f1 : Addr} {fd fd1 : FuncData} (A0 : At K mg "reduced" sRed ["vectors"] f fd) (A1 : At K mg "remainder" sRem ["rows", "vector"] f1 fd1) (T : Txt K mg) : FnOk P w K mg base CX0 2 f fd ["vectors"] (spRed K false) := by
  have G1 : FnOk P w K mg base CX0 1 f1 fd1 ["rows", "vector"] (spRem K) := ok_rem A1 T
  refine A0.fn.ok scRed (fun vs H Q E h => ?_) (fun cdv A outer s H vs Q E hr h => ?_)
  · obtain ⟨p, vv, rfl, _⟩ := h
    rfl
  · obtain ⟨p, vv, rfl, hp, hl, k⟩ := h
    have hp : SqL K H p (nv vv) := hp
    refine ⟨_, (pss_cons (ps_set (i := 1) scRed.nd rfl (Or.inl rfl) (pe_lst pa_nil))
      (pss_cons (ps_for PassesOwn.never rfl (pi_list (pv 0)) (pg_name (i := 2) scRed.nd rfl (Or.inl rfl)) (pss_cons (ps_set (i := 3) scRed.nd rfl (Or.inr rfl) (pe_call G1 hr (by rfl) A1.mg A1.fn.kp A1.bi .nil pass0 (pa_cons (pv 1) (pa_cons (pv 2) pa_nil))))
      (pss_one (ps_if (pt_cmpR op_gt (pv 3) pe_int (nomark _)) (pss_cons (ps_setLc (i := 1) (own := [("row", 4)]) (g := gName 4) (tt := tYes) rfl scRed.nd rfl rfl (sw_true rfl rfl rfl (by decide +kernel)) (pi_list (pv 1)) (blkOk_by (N := ["vectors", "rows", "vector", "rest", "row"]) (sc := defScope sRed) (by decide +kernel)) (fun _ _ _ _ _ => pg_name (i := 4) scRed.nd rfl (Or.inl rfl)) (fun _ _ _ _ _ => pts_nil) (fun _ _ _ _ _ => pe_callB (call_min2 rfl) (by rfl) T.min (by decide +kernel) (pa_cons (pv 4) (pa_cons (pe_op op_xor (pv 4) (pv 3)) pa_nil))))
      (pss_one (ps_expr (pe_bm PySem.F.plainAttrs_list PySem.F.slot_list_append PySem.F.type_list_append mt_append (pv 1) (pa_cons (pv 3) pa_nil))))) pss_nil))))
      (pss_one (ps_ret (pe_callTy call_tuple_of (by rfl) T.tuple (by decide +kernel) (pa_cons (pe_callB cr_sortedI (by rfl) T.sorted (by decide +kernel) (pa_cons (pv 1) pa_nil)) pa_nil)))))), ?_⟩
    refine ⟨Nat.zero_le _, fun l hl0 => ?_⟩
    refine ⟨_, rfl, p, rfl, ⟨_, Same.seq (keep_new (Same.refl H) hl0) hp⟩, ?_⟩
    refine for_list (K := K) (a := p) (xs := nv vv) (fun i σ H' => ∃ (l : Addr) (t2 t3 t4 : Option V), σ = [some (.ref p), some (.ref l), t2, t3, t4] ∧ Same H H' ∧ H l = none ∧ H' l = some (.lst (nv (GF.red0 (vv.take i)))) ∧ (GF.red0 (vv.take i)).length ≤ i)
      ⟨l, none, none, none, rfl, keep_new (Same.refl H) hl0, hl0, upd_same, Nat.le_refl _⟩ (fun i σ H' _ ⟨_, _, _, _, _, sm, _⟩ => Same.seq sm hp) ?_ ?_
    · rintro i y σ H1 hy ⟨l, t2, t3, t4, rfl, sm, nl, hl1, hlen⟩
      obtain ⟨v, ev, rfl, hi⟩ := nv_at hy
      have R := GF.red0_red (vv.take i)
      rw [red_next ev]
      refine ⟨_, rfl, _, rfl, l, _, v, rfl, SqL.of hl1, ?_⟩
      refine ⟨_, rfl, _, _, rfl, rfl, _, rfl, ?_⟩
      refine ite2 (fun hpos => ?_) (fun hpos => ?_)
      · have hpos : 0 < GF.rem (GF.red0 (vv.take i)) v := by
          have := of_decide_eq_true hpos
          omega
        refine ⟨_, rfl, l, rfl, ⟨_, SqL.of hl1⟩, fun D hD => ?_⟩
        have nlD : l ≠ D := ne_of_none hl1 hD
        refine lc_list (K := K) (a := l) (xs := nv (GF.red0 (vv.take i))) (fun j H' => (∀ c u, c ≠ D → H1 c = some u → H' c = some u) ∧ H' D = some (.lst (nv (((GF.red0 (vv.take i)).take j).map fun r => min r (r ^^^ GF.rem (GF.red0 (vv.take i)) v))))) ⟨fun c u n e => by rw [upd_ne n]; exact e, upd_same⟩ (fun j H' _ ⟨s1, _⟩ => SqL.of (s1 l _ nlD hl1)) ?_ ?_
        · rintro j x H2 hx ⟨s1, hd⟩
          obtain ⟨r, er, rfl, hj⟩ := nv_at hx
          refine ⟨rfl, yes (iteT ?_)⟩
          refine ⟨_, rfl, _, rfl, _, rfl, _, _, rfl, rfl, _, _, rfl, _, hd, ?_, ?_, ?_⟩
          · rw [nv_len, List.length_map, List.length_take]
            exact Nat.lt_of_le_of_lt (Nat.le_trans (Nat.min_le_left _ _) (Nat.le_trans (Nat.le_of_lt hj) (Nat.le_trans hlen (Nat.le_trans (Nat.le_of_lt hi) hl)))) (by decide)
          · exact fun c u n e => by rw [upd_ne n]; exact s1 c u n e
          · rw [upd_same, List.take_add_one, er, List.map_append]
            show some (HO.lst (nv _ ++ [V.int (if Builtin.bitXor (r : Int) _ < (r : Int) then _ else _)])) = _
            rw [min_cast]
            unfold nv
            rw [List.map_append]
            rfl
        · rintro H2 ⟨s1, hd⟩
          rw [nv_len, List.take_length] at hd
          have sm2 : Same H H2 := fun c u e => s1 c u (ne_of_none (sm c u e) hD) (sm c u e)
          have nD : H D = none := by
            cases e : H D with
            | none => rfl
            | some u =>
              rw [sm _ _ e] at hD
              cases hD
          refine ⟨_, rfl, .inl ⟨rfl, _, SqL.of hd⟩, _, rfl, D, _, _, rfl, rfl, hd, ?_, ?_⟩
          · rw [nv_len, List.length_map]
            exact Nat.lt_of_le_of_lt (Nat.le_trans hlen (Nat.le_trans (Nat.le_of_lt hi) hl)) (by decide)
          · refine ⟨D, _, _, _, rfl, fun c u e => ?_, nD, ?_, ?_⟩
            · rw [upd_ne (ne_of_none e nD)]
              exact sm2 c u e
            · rw [upd_same]
              unfold GF.step
              rw [if_pos hpos]
              unfold nv
              rw [List.map_append]
              rfl
            · exact Nat.le_trans (step_len _ _) (Nat.succ_le_succ hlen)
      · have hz : ¬ 0 < GF.rem (GF.red0 (vv.take i)) v := fun z => hpos (decide_eq_true (by omega))
        refine ⟨l, _, _, _, rfl, sm, nl, ?_, ?_⟩
        · unfold GF.step
          rw [if_neg hz]
          exact hl1
        · exact Nat.le_trans (step_len _ _) (Nat.succ_le_succ hlen)
    · rintro σ H1 ⟨l, t2, t3, t4, rfl, sm, nl, hl1, hlen⟩
      rw [nv_len, List.take_length] at hl1 hlen
      refine ⟨_, rfl, l, _, rfl, SqL.of (by rw [← nv_ints]; exact hl1), fun L' q pm hs hq => ?_⟩
      obtain ⟨L, eL, pL, sL⟩ := sort_nats pm hs
      obtain ⟨C, RL⟩ := GF.sorted_can pL sL
      refine ⟨q, _, rfl, .inl ⟨SqL.of upd_same, fun t ht => ?_⟩⟩
      have smq := keep_new (o := .lst (L'.map V.int)) sm hq
      have nt : H t = none := by
        cases e : H t with
        | none => rfl
        | some u =>
          rw [smq _ _ e] at ht
          cases ht
      exact k t L _ nt (keep_new smq ht) (by rw [upd_same, eL]) C RL (by rw [pL.length_eq]; exact hlen) fun x => (GF.span_perm pL x).trans (GF.red0_span vv x)
end
end X1
set_option Elab.async false
set_option maxRecDepth 100000
set_option maxHeartbeats 4000000
namespace X1
open PySem L2
open GF (pc par pc_0 pc_eq par_lt InS Can Red Orth mk isFree)
theorem bits_of {n : Nat} (h : n ≠ 0) : Builtin.Int.intBits (n : Int) = n.log2 + 1 := by
  unfold Builtin.Int.intBits
  rw [if_neg (by simpa using h)]
  rfl
theorem pow_cast (k : Nat) : ((2 ^ k : Nat) : Int) = 2 ^ k := by rw [Int.natCast_pow]; rfl
theorem sum_cast : ∀ l : List Nat, (l.map fun n : Nat => (n : Int)).sum = ((l.sum : Nat) : Int)
  | [] => rfl
  | n :: l => by rw [List.map_cons, List.sum_cons, List.sum_cons, sum_cast l, Int.natCast_add]
theorem in_nv (b : Nat) : ∀ l : List Nat, inV (.int (b : Int)) (nv l) = l.any (· == b)
  | [] => rfl
  | n :: l => by
    show (eqV (.int (n : Int)) (.int (b : Int)) || inV (.int (b : Int)) (nv l)) = ((n == b) || l.any (· == b))
    rw [in_nv b l]
    congr 1
    show ((n : Int) == (b : Int)) = (n == b)
    rw [Bool.eq_iff_iff, beq_iff_eq, beq_iff_eq]
    omega
theorem flat_nv : ∀ l : List Nat, (nv l).all flatV = true
  | [] => rfl
  | n :: l => flat_nv l
def fr (L : List Nat) (j : Nat) : Bool := !((L.map fun r => 2 ^ r.log2).any (· == 2 ^ j))
/-- row & bit, as a test -/
def tBitT (K : PySem.W.Frag) (i j : Nat) : TT := fun σ H Q => tOp (rI0 fun i j => .int (Builtin.bitAnd i j)) (tVar i) (tVar j) σ H fun x H' => ∃ k, TruV K x H' k ∧ Q k H'
theorem fr_iff (L : List Nat) (j : Nat) : fr L j = true ↔ isFree L j := by
  unfold fr isFree
  rw [Bool.not_eq_true', List.any_eq_false]
  constructor
  · intro h r hr e
    exact h (2 ^ r.log2) (List.mem_map.mpr ⟨r, hr, rfl⟩) (by rw [e]; exact beq_self_eq_true _)
  · rintro h x hx e
    obtain ⟨r, hr, rfl⟩ := List.mem_map.mp hx
    have e := beq_iff_eq.mp e
    have e2 := congrArg Nat.log2 e
    rw [Nat.log2_two_pow, Nat.log2_two_pow] at e2
    exact h r hr e2
theorem and_ne (r j : Nat) : (((r &&& 2 ^ j : Nat) : Int) != 0) = r.testBit j := by
  rw [GF.and_pow]
  cases h : r.testBit j
  · rfl
  · have := Nat.two_pow_pos j
    rw [if_pos rfl, bne_iff_ne]
    omega
section
variable {P : Program} {w : World} {K : PySem.W.Frag} {mg : Str → Option Value} {base : Heap}
/-! ### powers -/
def spPowers : Sp := fun vs H Q _ => ∃ wd : Nat, vs = [.int (wd : Int)] ∧ wd ≤ 64 ∧ ∀ (D : Addr) (H' : Hp), H D = none → Same H H' → H' D = some (.lst (nv ((List.range wd).map (2 ^ ·)))) → Q (.ref D) H'
theorem scPowers : FnScope ["width", "index"] ["width"] (defScope sPowers) := ⟨rfl, rfl, rfl, by decide +kernel, rfl, by decide +kernel, by decide +kernel⟩
theorem ok_powers {f : Addr} {fd : FuncData} (A0 : At K mg "powers" sPowers ["width"] f fd) (T : Txt K mg) : FnOk P w K mg base CX0 1 f fd ["width"] spPowers := by
  refine A0.fn.ok scPowers (fun vs H Q E h => ?_) (fun cdv A outer s H vs Q E hr h => ?_)
  · obtain ⟨n, rfl, _⟩ := h
    rfl
  · obtain ⟨wd, rfl, h1, k⟩ := h
    refine ⟨_, pss_one (ps_ret (pe_lc (own := [("index", 1)]) (g := gName 1) (tt := tYes) rfl scPowers.nd (pi_range1 (by rfl) T.range (pa_cons (pv 0) pa_nil)) (blkOk_by (N := ["width", "index"]) (sc := defScope sPowers) (by decide +kernel)) (fun _ _ _ _ _ => pg_name (i := 1) scPowers.nd rfl (Or.inl rfl)) (fun _ _ _ _ _ => pts_nil) (fun _ _ _ _ _ => pe_op op_shl pe_int (pv 1)))), ?_⟩
    refine ⟨_, rfl, _, rfl, by omega, by omega, fun D hD => ?_⟩
    refine lc_range (lo := 0) (n := wd) (fun i H' => (∀ c u, c ≠ D → H c = some u → H' c = some u) ∧ H' D = some (.lst (nv ((List.range i).map (2 ^ ·))))) ⟨fun c u n e => by rw [upd_ne n]; exact e, upd_same⟩ ?_ ?_
    · rintro i H1 hi ⟨s1, hd⟩
      refine ⟨rfl, yes (iteT ?_)⟩
      refine ⟨_, rfl, _, _, rfl, rfl, ⟨by omega, by omega, by decide⟩, _, hd, ?_, ?_, ?_⟩
      · rw [nv_len, List.length_map, List.length_range]
        exact Nat.lt_of_lt_of_le hi (Nat.le_trans h1 (by decide))
      · exact fun c u n e => by rw [upd_ne n]; exact s1 c u n e
      · rw [upd_same, List.range_succ, List.map_append]
        show some (HO.lst (nv _ ++ [V.int (1 * 2 ^ ((0 : Int) + (i : Int)).toNat)])) = _
        rw [Int.one_mul, show ((0 : Int) + (i : Int)).toNat = i by omega, ← pow_cast]
        unfold nv
        rw [List.map_append]
        rfl
    · rintro H1 ⟨s1, hd⟩
      exact k D H1 hD (fun c u e => s1 c u (ne_of_none e hD) e) hd
theorem inw_nv {wd : Nat} {vv : List Nat} (h : ∀ v ∈ vv, v < 2 ^ wd) : InW (wd : Int) (vv.map fun n : Nat => (n : Int)) := fun x hx => by
  obtain ⟨v, hv, rfl⟩ := List.mem_map.mp hx
  have := h v hv
  rw [Int.toNat_natCast, ← pow_cast]
  omega
end
end X1
set_option Elab.async false
set_option maxRecDepth 100000
set_option maxHeartbeats 4000000
namespace X1
open PySem L2
open GF (pc par pc_0 pc_eq par_lt InS Can Red Els All Part)
/-! ### dicts of numbers -/
def kd (s : List Nat) : List (Key × V) := s.map fun n : Nat => ((Sum.inl (n : Int) : Key), V.bl true)
theorem kd_len (s : List Nat) : (kd s).length = s.length := List.length_map ..
theorem kd_at {s : List Nat} {i : Nat} {k : Key} {v : V} (h : (kd s)[i]? = some (k, v)) : ∃ n, s[i]? = some n ∧ k = Sum.inl (n : Int) ∧ i < s.length := by
  unfold kd at h
  rw [List.getElem?_map] at h
  cases e : s[i]? with
  | none =>
    rw [e] at h
    cases h
  | some m =>
    rw [e] at h
    cases h
    exact ⟨m, rfl, rfl, (List.getElem?_eq_some_iff.mp e).1⟩
theorem kd_is (x : Nat) : ∀ s : List Nat, (valV (kd s) (Sum.inl (x : Int) : Key)).isSome = decide (x ∈ s)
  | [] => rfl
  | n :: s => by
    show (valV (((Sum.inl (n : Int) : Key), V.bl true) :: kd s) _).isSome = _
    by_cases e : n = x
    · subst e
      rw [valV_pos rfl]
      simp
    · rw [valV_neg (fun z => e (by have := Sum.inl.inj z; omega)), kd_is x s]
      have : x ≠ n := fun z => e z.symm
      simp [this]
theorem kd_none {x : Nat} {s : List Nat} (h : x ∉ s) : valV (kd s) (Sum.inl (x : Int) : Key) = none := by
  have := kd_is x s
  rw [decide_eq_false h] at this
  cases e : valV (kd s) (Sum.inl (x : Int) : Key) with
  | none => rfl
  | some v =>
    rw [e] at this
    cases this
theorem kd_merge : ∀ (t s : List Nat), (s ++ t).Nodup → mergeK (kd s) (kd t) = kd (s ++ t)
  | [], s, _ => by rw [List.append_nil]; rfl
  | n :: t, s, h => by
    have hn : n ∉ s := fun z => (List.nodup_append.mp h).2.2 n z n (List.mem_cons_self ..) rfl
    show mergeK (putK (kd s) (Sum.inl (n : Int)) (V.bl true)) (kd t) = _
    rw [putK_new _ (kd_none hn)]
    have e : kd s ++ [((Sum.inl (n : Int) : Key), V.bl true)] = kd (s ++ [n]) := by
      unfold kd
      rw [List.map_append]
      rfl
    have ea : s ++ n :: t = (s ++ [n]) ++ t := by simp
    rw [e, ea]
    exact kd_merge t (s ++ [n]) (by rw [← ea]; exact h)
theorem kd_keys (s : List Nat) : (kd s).map (·.1) = (s.map fun n : Nat => (n : Int)).map Sum.inl := by
  unfold kd
  rw [List.map_map, List.map_map]
  rfl
theorem paired_snoc {α β : Type} {F : α → β → Prop} : ∀ {as : List α} {bs : List β}, Paired F as bs → ∀ {a : α} {b : β}, F a b → Paired F (as ++ [a]) (bs ++ [b])
  | _, _, .nil, _, _, h => .cons h .nil
  | _, _, .cons h t, _, _, h' => .cons h (paired_snoc t h')
theorem cut_1 (F : List Nat) : cutV (nv (0 :: F)) (some 1) none = nv F := by
  unfold cutV
  rw [HT.sIx_none, show (some (1 : Int)) = some ((1 : Nat) : Int) from rfl, HT.sIx_nat, nv_len]
  rw [show min 1 (0 :: F).length = 1 by rw [List.length_cons]; omega]
  show (nv F).take (F.length + 1 - 1) = nv F
  rw [show F.length + 1 - 1 = (nv F).length by rw [nv_len]; omega, List.take_length]
def ent (x : Nat) : Key × V := (Sum.inl ((x.log2 + 1 : Nat) : Int), .int (x : Int))
theorem ent_none {k : Nat} : ∀ {C : List Nat}, valV (C.map ent) (Sum.inl (k : Int) : Key) = none → ∀ x ∈ C, x.log2 + 1 ≠ k
  | x :: C, h, y, hy => by
    by_cases e : (ent x).1 = Sum.inl (k : Int)
    · rw [List.map_cons, valV_pos e] at h
      cases h
    · rw [List.map_cons, valV_neg e] at h
      rcases List.mem_cons.mp hy with rfl | hy
      · exact fun z => e (by rw [← z]; rfl)
      · exact ent_none h y hy
theorem ent_some {k : Nat} {v : V} : ∀ {C : List Nat}, valV (C.map ent) (Sum.inl (k : Int) : Key) = some v → ∃ x ∈ C, x.log2 + 1 = k
  | [], h => by cases h
  | x :: C, h => by
    by_cases e : (ent x).1 = Sum.inl (k : Int)
    · have e' : ((x.log2 + 1 : Nat) : Int) = (k : Int) := Sum.inl.inj e
      exact ⟨x, List.mem_cons_self .., by omega⟩
    · rw [List.map_cons, valV_neg e] at h
      obtain ⟨y, hy, z⟩ := ent_some h
      exact ⟨y, List.mem_cons_of_mem _ hy, z⟩
theorem ent_at : ∀ {C : List Nat}, C.Pairwise (fun a b => a.log2 < b.log2) → ∀ x ∈ C, valV (C.map ent) (Sum.inl ((x.log2 + 1 : Nat) : Int) : Key) = some (.int (x : Int))
  | y :: C, p, x, hx => by
    obtain ⟨p1, p2⟩ := List.pairwise_cons.mp p
    rcases List.mem_cons.mp hx with rfl | hx
    · rw [List.map_cons]
      exact valV_pos (p := ent x) rfl
    · have e : ¬ (ent y).1 = Sum.inl ((x.log2 + 1 : Nat) : Int) := fun e => by
        have e' : ((y.log2 + 1 : Nat) : Int) = ((x.log2 + 1 : Nat) : Int) := Sum.inl.inj e
        have := p1 x hx
        omega
      rw [List.map_cons, valV_neg e]
      exact ent_at p2 x hx
theorem ent_keys (C : List Nat) : (C.map ent).map (·.1) = (C.map fun x => ((x.log2 + 1 : Nat) : Int)).map Sum.inl := by
  rw [List.map_map, List.map_map]
  rfl
theorem sorted_is {C : List Nat} {ys : List Int} (p : C.Pairwise (fun a b => a.log2 < b.log2)) (h : ys.Perm (C.map fun x => ((x.log2 + 1 : Nat) : Int))) (s : ys.Pairwise (· ≤ ·)) : ys = C.map fun x => ((x.log2 + 1 : Nat) : Int) := by
  refine List.Perm.eq_of_pairwise (le := (· ≤ ·)) (fun a b _ _ h1 h2 => Int.le_antisymm h1 h2) s ?_ h
  rw [List.pairwise_map]
  exact p.imp fun {a b} h => by omega
theorem paired_kd {K : PySem.W.Frag} {H : Hp} : ∀ {ps : List Addr} {t : List Nat}, Paired (fun q (x : Nat) => SqT K H q [V.int (x : Int), V.bl true]) ps t → Paired (fun p (kv : Key × V) => SqT K H p [kV kv.1, kv.2]) ps (kd t)
  | _, _, .nil => .nil
  | _, _, .cons h t => .cons h (paired_kd t)

section
variable {P : Program} {w : World} {K : PySem.W.Frag} {mg : Str → Option Value} {base : Heap}
/-! ### _law_all_of -/
def spAllOf (K : PySem.W.Frag) : Sp := fun vs H Q _ => ∃ (p : Addr) (vv : List Nat), vs = [.ref p] ∧ H p = some (.tup (nv vv)) ∧ vv.length ≤ 11 ∧
  ∀ (q : Addr) (E : List Nat) (H' : Hp), Same H H' → H' q = some (.lst (nv E)) → All E vv → E.length ≤ 2048 → Q (.ref q) H'
theorem scAllOf : FnScope ["_law_lot_here", "_law_found", "_law_one", "_law_spot"] ["_law_lot_here"] (defScope sAllOf) := ⟨rfl, rfl, rfl, by decide +kernel, rfl, by decide +kernel, by decide +kernel⟩
theorem ok_allOf {f : Addr} {fd : FuncData} (A0 : At K mg "_law_all_of" sAllOf ["_law_lot_here"] f fd) (T : Txt K mg) : FnOk P w K mg base CX0 1 f fd ["_law_lot_here"] (spAllOf K) := by
  refine A0.fn.ok scAllOf (fun vs H Q E h => ?_) (fun cdv A outer s H vs Q E hr h => ?_)
  · obtain ⟨p, vv, rfl, _⟩ := h
    rfl
  · obtain ⟨p, vv, rfl, hp, hl, k⟩ := h
    have pwr : ∀ j : Nat, j ≤ 11 → 2 ^ j ≤ 2048 := by decide
    refine ⟨_, ((pss_cons (ps_set (i := 1) scAllOf.nd rfl (Or.inl rfl) (pe_disp (pps_cons pe_int pe_bl pps_nil) rfl rfl (by decide) (by decide)))
      (pss_cons (ps_for PassesOwn.never rfl (pi_tup (pv 0)) (pg_name (i := 2) scAllOf.nd rfl (Or.inr rfl)) (pss_one (ps_if (pt_cmp (pc_dnotin (hu_of hr) (pv 2) (pv 1)) (by rfl)) (pss_one (ps_expr (pe_bm PySem.F.plainAttrs_dict PySem.F.slot_dict_update PySem.F.type_dict_update G.mt_dupd (pv 1) (pa_cons (pe_callTy (call_dictP rfl) (by rfl) T.dict (by decide +kernel) (pa_cons (pe_lock (pe_lc (own := [("_law_spot", 3)]) (g := gName 3) (tt := tYes) rfl scAllOf.nd (pi_keys (pv 1)) (blkOk_by (N := ["_law_lot_here", "_law_found", "_law_one", "_law_spot"]) (sc := defScope sAllOf) (by decide +kernel)) (fun _ _ _ _ _ => pg_name (i := 3) scAllOf.nd rfl (Or.inl rfl)) (fun _ _ _ _ _ => pts_nil) (fun _ _ _ _ _ => pe_tup (pa_cons (pe_op op_xor (pv 2) (pv 3)) (pa_cons pe_bl pa_nil))))) pa_nil)) pa_nil)))) pss_nil)))
      (pss_one (ps_ret (pe_callB (G.cr_sortedAny rfl) (by rfl) T.sorted (by decide +kernel) (pa_cons (pv 1) pa_nil))))))), ?_⟩
    intro d hd
    refine ⟨upd_same, [(Sum.inl 0, V.bl true)], rfl, by decide, ?_⟩
    have ndp : p ≠ d := ne_of_none hp hd
    have hmk : mergeK [] [((Sum.inl 0 : Key), V.bl true)] = kd [0] := rfl
    rw [hmk]
    have sm0 : Same H (upd (upd H d (.dK [])) d (.dK (kd [0]))) := fun c u e => by
      have n := ne_of_none e hd
      rw [upd_ne n, upd_ne n]
      exact e
    refine ⟨_, rfl, p, rfl, ⟨_, SqT.of (sm0 _ _ hp)⟩, ?_⟩
    refine for_tup (K := K) (a := p) (xs := nv vv) (fun i σ H' => ∃ (s : List Nat) (t2 t3 : Option V), σ = [some (.ref p), some (.ref d), t2, t3] ∧ Same H H' ∧ H' d = some (.dK (kd s)) ∧ Els s (vv.take i) ∧ s.length ≤ 2 ^ i)
      ⟨[0], none, none, rfl, sm0, upd_same, GF.els_0, Nat.le_refl _⟩ (fun i σ H' _ ⟨_, _, _, _, sm, _⟩ => SqT.of (sm _ _ hp)) ?_ ?_
    · rintro i y σ H1 hy ⟨s, t2, t3, rfl, sm1, hd1, hE, hlen⟩
      obtain ⟨v, ev, rfl, hi⟩ := nv_at hy
      have hs : s.length ≤ 2048 := Nat.le_trans hlen (pwr i (by omega))
      have ea : vv.take (i + 1) = vv.take i ++ [v] := by
        rw [List.take_add_one, ev]
        rfl
      rw [ea]
      refine ⟨_, rfl, _, rfl, d, _, rfl, DGet.k (k := Sum.inl (v : Int)) hd1, _, rfl, ?_⟩
      rw [kd_is]
      by_cases hv : v ∈ s
      · refine iteFb (by rw [decide_eq_true hv]; rfl) ?_
        exact ⟨s, _, _, rfl, sm1, hd1, hE.old ((hE.iff v).mp hv), Nat.le_trans hlen (Nat.pow_le_pow_right (by decide) (Nat.le_succ i))⟩
      · refine iteTb (by rw [decide_eq_false hv]; rfl) ?_
        have e := hE.new fun z => hv ((hE.iff v).mpr z)
        refine ⟨_, rfl, .inr (.inr (.inl ⟨rfl, .inl ⟨_, hd1⟩⟩)), d, _, hd1, trivial, fun od => ?_⟩
        refine ⟨_, rfl, d, od, rfl, .inl ⟨kd s, upd_same, fun D hD => ?_⟩⟩
        have ndD : d ≠ D := fun z => by
          rw [z, upd_same] at hD
          cases hD
        have hD1 : H1 D = none := by
          rw [upd_ne ndD.symm] at hD
          exact hD
        refine lc_it walk_keys (fun j H' => (∀ c u, c ≠ d → c ≠ D → H1 c = some u → H' c = some u) ∧ H' d = some (.frz od (.dK (kd s))) ∧ ∃ ps : List Addr, H' D = some (.lst (ps.map V.ref)) ∧ ps.length = j ∧ Paired (fun q (x : Nat) => H' q = some (.tup [V.int (x : Int), V.bl true])) ps ((s.take j).map fun x => x ^^^ v))
          ⟨fun c u n1 n2 e => by rw [upd_ne n2, upd_ne n1]; exact e, by rw [upd_ne ndD]; exact upd_same, [], upd_same, rfl, .nil⟩ (fun j H' _ ⟨_, s2, _⟩ => s2) ?_ ?_
        · rintro j x H2 H3 hj ⟨s1, s2, ps, s3, s4, s5⟩ ⟨rfl, kk, vx, ek, rfl⟩
          obtain ⟨m, em, rfl, hjl⟩ := kd_at ek
          refine ⟨rfl, yes (iteT ?_)⟩
          refine ⟨_, rfl, _, rfl, _, _, rfl, rfl, (by show 2 ≤ sizeLine; decide), fun tq ht => ?_⟩
          have nDt : D ≠ tq := ne_of_none s3 ht
          have ndt : d ≠ tq := ne_of_none s2 ht
          refine ⟨_, (by rw [upd_ne nDt]; exact s3), ?_, ?_, ?_, ps ++ [tq], ?_, ?_, ?_⟩
          · rw [List.length_map, s4]
            exact Nat.lt_of_lt_of_le hjl (Nat.le_trans hs (by decide))
          · intro c u n1 n2 e
            rw [upd_ne n2, upd_ne (ne_of_none (s1 c u n1 n2 e) ht)]
            exact s1 c u n1 n2 e
          · rw [upd_ne ndD, upd_ne ndt]
            exact s2
          · rw [upd_same, List.map_append]
            rfl
          · rw [List.length_append, s4]
            rfl
          · rw [List.take_add_one, em, List.map_append]
            refine paired_snoc (L2.Paired.mapP s5 fun q x h => ?_) ?_
            · have nq : q ≠ D := fun z => by
                rw [z, s3] at h
                cases h
              rw [upd_ne nq, upd_ne (ne_of_none h ht)]
              exact h
            · rw [upd_ne nDt.symm, upd_same]
              show some (HO.tup [V.int (Builtin.bitXor (v : Int) (m : Int)), V.bl true]) = some (HO.tup [V.int ((m ^^^ v : Nat) : Int), V.bl true])
              rw [Bits.bitXor_pp (Int.natCast_nonneg v) (Int.natCast_nonneg m), Nat.xor_comm m v]
              rfl
        · rintro H2 ⟨s1, s2, ps, s3, s4, s5⟩
          rw [kd_len, List.take_length] at s5
          have smD : ∀ c u, c ≠ d → H1 c = some u → H2 c = some u := fun c u n e => s1 c u n (ne_of_none e hD1) e
          refine ⟨s2, ?_⟩
          have eD : (upd H2 d (.dK (kd s))) D = some (.lst (ps.map V.ref)) := by
            rw [upd_ne ndD.symm]
            exact s3
          have tn : (s.map fun x => x ^^^ v).Nodup := (List.nodup_append.mp e.nd).2.1
          refine ⟨D, ps, kd (s.map fun x => x ^^^ v), rfl, SqL.of eD, ?_, fun dd hdd => ?_⟩
          · exact paired_kd (L2.Paired.mapP s5 fun q x h => by
              have nq : q ≠ d := fun z => by
                rw [z, s2] at h
                cases h
              exact SqT.of (by rw [upd_ne nq]; exact h))
          have mk : mergeK [] (kd (s.map fun x => x ^^^ v)) = kd (s.map fun x => x ^^^ v) := kd_merge _ [] (by rw [List.nil_append]; exact tn)
          rw [mk]
          have hd2 : (upd (upd H2 d (.dK (kd s))) dd (.dK (kd (s.map fun x => x ^^^ v)))) d = some (.dK (kd s)) := new_at upd_same hdd
          refine ⟨d, dd, _, _, rfl, rfl, hd2, upd_same, (fun z => by rw [z] at hd2; rw [z, upd_same] at hdd; cases hdd), ?_, ?_⟩
          · rw [kd_len, kd_len, List.length_map]
            exact Nat.le_trans (Nat.add_le_add hs hs) (by decide)
          · rw [kd_merge _ _ e.nd]
            refine ⟨_, _, _, rfl, fun c u ec => ?_, upd_same, e, ?_⟩
            · have n := ne_of_none ec hd
              have e1 := smD c u n (sm1 c u ec)
              rw [upd_ne n]
              have e2 : (upd H2 d (.dK (kd s))) c = some u := (upd_ne n).trans e1
              exact new_at e2 hdd
            · rw [List.length_append, List.length_map, Nat.pow_succ]
              omega
    · rintro σ H1 ⟨s, t2, t3, rfl, sm1, hd1, hE, hlen⟩
      rw [nv_len, List.take_length] at hE
      rw [nv_len] at hlen
      refine ⟨_, rfl, d, kd s, s.map (fun n : Nat => (n : Int)), rfl, .inl hd1, kd_keys s, fun ys q pm srt hq => ?_⟩
      obtain ⟨F, eF, pF, sF⟩ := sort_nats pm srt
      exact k q F _ (keep_new sm1 hq) (by rw [upd_same, eF]) (hE.all pF sF) (by rw [pF.length_eq]; exact Nat.le_trans hlen (pwr _ hl))

def spAllOfL (K : PySem.W.Frag) : Sp := fun vs H Q _ => ∃ (p : Addr) (vv : List Nat), vs = [.ref p] ∧ H p = some (.lst (nv vv)) ∧ vv.length ≤ 11 ∧
  ∀ (q : Addr) (E : List Nat) (H' : Hp), Same H H' → H' q = some (.lst (nv E)) → All E vv → E.length ≤ 2048 → Q (.ref q) H'
theorem ok_allOfL {f : Addr} {fd : FuncData} (A0 : At K mg "_law_all_of" sAllOf ["_law_lot_here"] f fd) (T : Txt K mg) : FnOk P w K mg base CX0 1 f fd ["_law_lot_here"] (spAllOfL K) := by
  refine A0.fn.ok scAllOf (fun vs H Q E h => ?_) (fun cdv A outer s H vs Q E hr h => ?_)
  · obtain ⟨p, vv, rfl, _⟩ := h
    rfl
  · obtain ⟨p, vv, rfl, hp, hl, k⟩ := h
    have pwr : ∀ j : Nat, j ≤ 11 → 2 ^ j ≤ 2048 := by decide
    refine ⟨_, ((pss_cons (ps_set (i := 1) scAllOf.nd rfl (Or.inl rfl) (pe_disp (pps_cons pe_int pe_bl pps_nil) rfl rfl (by decide) (by decide)))
      (pss_cons (ps_for PassesOwn.never rfl (pi_list (pv 0)) (pg_name (i := 2) scAllOf.nd rfl (Or.inr rfl)) (pss_one (ps_if (pt_cmp (pc_dnotin (hu_of hr) (pv 2) (pv 1)) (by rfl)) (pss_one (ps_expr (pe_bm PySem.F.plainAttrs_dict PySem.F.slot_dict_update PySem.F.type_dict_update G.mt_dupd (pv 1) (pa_cons (pe_callTy (call_dictP rfl) (by rfl) T.dict (by decide +kernel) (pa_cons (pe_lock (pe_lc (own := [("_law_spot", 3)]) (g := gName 3) (tt := tYes) rfl scAllOf.nd (pi_keys (pv 1)) (blkOk_by (N := ["_law_lot_here", "_law_found", "_law_one", "_law_spot"]) (sc := defScope sAllOf) (by decide +kernel)) (fun _ _ _ _ _ => pg_name (i := 3) scAllOf.nd rfl (Or.inl rfl)) (fun _ _ _ _ _ => pts_nil) (fun _ _ _ _ _ => pe_tup (pa_cons (pe_op op_xor (pv 2) (pv 3)) (pa_cons pe_bl pa_nil))))) pa_nil)) pa_nil)))) pss_nil)))
      (pss_one (ps_ret (pe_callB (G.cr_sortedAny rfl) (by rfl) T.sorted (by decide +kernel) (pa_cons (pv 1) pa_nil))))))), ?_⟩
    intro d hd
    refine ⟨upd_same, [(Sum.inl 0, V.bl true)], rfl, by decide, ?_⟩
    have ndp : p ≠ d := ne_of_none hp hd
    have hmk : mergeK [] [((Sum.inl 0 : Key), V.bl true)] = kd [0] := rfl
    rw [hmk]
    have sm0 : Same H (upd (upd H d (.dK [])) d (.dK (kd [0]))) := fun c u e => by
      have n := ne_of_none e hd
      rw [upd_ne n, upd_ne n]
      exact e
    refine ⟨_, rfl, p, rfl, ⟨_, SqL.of (sm0 _ _ hp)⟩, ?_⟩
    refine for_list (K := K) (a := p) (xs := nv vv) (fun i σ H' => ∃ (s : List Nat) (t2 t3 : Option V), σ = [some (.ref p), some (.ref d), t2, t3] ∧ Same H H' ∧ H' d = some (.dK (kd s)) ∧ Els s (vv.take i) ∧ s.length ≤ 2 ^ i)
      ⟨[0], none, none, rfl, sm0, upd_same, GF.els_0, Nat.le_refl _⟩ (fun i σ H' _ ⟨_, _, _, _, sm, _⟩ => SqL.of (sm _ _ hp)) ?_ ?_
    · rintro i y σ H1 hy ⟨s, t2, t3, rfl, sm1, hd1, hE, hlen⟩
      obtain ⟨v, ev, rfl, hi⟩ := nv_at hy
      have hs : s.length ≤ 2048 := Nat.le_trans hlen (pwr i (by omega))
      have ea : vv.take (i + 1) = vv.take i ++ [v] := by
        rw [List.take_add_one, ev]
        rfl
      rw [ea]
      refine ⟨_, rfl, _, rfl, d, _, rfl, DGet.k (k := Sum.inl (v : Int)) hd1, _, rfl, ?_⟩
      rw [kd_is]
      by_cases hv : v ∈ s
      · refine iteFb (by rw [decide_eq_true hv]; rfl) ?_
        exact ⟨s, _, _, rfl, sm1, hd1, hE.old ((hE.iff v).mp hv), Nat.le_trans hlen (Nat.pow_le_pow_right (by decide) (Nat.le_succ i))⟩
      · refine iteTb (by rw [decide_eq_false hv]; rfl) ?_
        have e := hE.new fun z => hv ((hE.iff v).mpr z)
        refine ⟨_, rfl, .inr (.inr (.inl ⟨rfl, .inl ⟨_, hd1⟩⟩)), d, _, hd1, trivial, fun od => ?_⟩
        refine ⟨_, rfl, d, od, rfl, .inl ⟨kd s, upd_same, fun D hD => ?_⟩⟩
        have ndD : d ≠ D := fun z => by
          rw [z, upd_same] at hD
          cases hD
        have hD1 : H1 D = none := by
          rw [upd_ne ndD.symm] at hD
          exact hD
        refine lc_it walk_keys (fun j H' => (∀ c u, c ≠ d → c ≠ D → H1 c = some u → H' c = some u) ∧ H' d = some (.frz od (.dK (kd s))) ∧ ∃ ps : List Addr, H' D = some (.lst (ps.map V.ref)) ∧ ps.length = j ∧ Paired (fun q (x : Nat) => H' q = some (.tup [V.int (x : Int), V.bl true])) ps ((s.take j).map fun x => x ^^^ v))
          ⟨fun c u n1 n2 e => by rw [upd_ne n2, upd_ne n1]; exact e, by rw [upd_ne ndD]; exact upd_same, [], upd_same, rfl, .nil⟩ (fun j H' _ ⟨_, s2, _⟩ => s2) ?_ ?_
        · rintro j x H2 H3 hj ⟨s1, s2, ps, s3, s4, s5⟩ ⟨rfl, kk, vx, ek, rfl⟩
          obtain ⟨m, em, rfl, hjl⟩ := kd_at ek
          refine ⟨rfl, yes (iteT ?_)⟩
          refine ⟨_, rfl, _, rfl, _, _, rfl, rfl, (by show 2 ≤ sizeLine; decide), fun tq ht => ?_⟩
          have nDt : D ≠ tq := ne_of_none s3 ht
          have ndt : d ≠ tq := ne_of_none s2 ht
          refine ⟨_, (by rw [upd_ne nDt]; exact s3), ?_, ?_, ?_, ps ++ [tq], ?_, ?_, ?_⟩
          · rw [List.length_map, s4]
            exact Nat.lt_of_lt_of_le hjl (Nat.le_trans hs (by decide))
          · intro c u n1 n2 e
            rw [upd_ne n2, upd_ne (ne_of_none (s1 c u n1 n2 e) ht)]
            exact s1 c u n1 n2 e
          · rw [upd_ne ndD, upd_ne ndt]
            exact s2
          · rw [upd_same, List.map_append]
            rfl
          · rw [List.length_append, s4]
            rfl
          · rw [List.take_add_one, em, List.map_append]
            refine paired_snoc (L2.Paired.mapP s5 fun q x h => ?_) ?_
            · have nq : q ≠ D := fun z => by
                rw [z, s3] at h
                cases h
              rw [upd_ne nq, upd_ne (ne_of_none h ht)]
              exact h
            · rw [upd_ne nDt.symm, upd_same]
              show some (HO.tup [V.int (Builtin.bitXor (v : Int) (m : Int)), V.bl true]) = some (HO.tup [V.int ((m ^^^ v : Nat) : Int), V.bl true])
              rw [Bits.bitXor_pp (Int.natCast_nonneg v) (Int.natCast_nonneg m), Nat.xor_comm m v]
              rfl
        · rintro H2 ⟨s1, s2, ps, s3, s4, s5⟩
          rw [kd_len, List.take_length] at s5
          have smD : ∀ c u, c ≠ d → H1 c = some u → H2 c = some u := fun c u n e => s1 c u n (ne_of_none e hD1) e
          refine ⟨s2, ?_⟩
          have eD : (upd H2 d (.dK (kd s))) D = some (.lst (ps.map V.ref)) := by
            rw [upd_ne ndD.symm]
            exact s3
          have tn : (s.map fun x => x ^^^ v).Nodup := (List.nodup_append.mp e.nd).2.1
          refine ⟨D, ps, kd (s.map fun x => x ^^^ v), rfl, SqL.of eD, ?_, fun dd hdd => ?_⟩
          · exact paired_kd (L2.Paired.mapP s5 fun q x h => by
              have nq : q ≠ d := fun z => by
                rw [z, s2] at h
                cases h
              exact SqT.of (by rw [upd_ne nq]; exact h))
          have mk : mergeK [] (kd (s.map fun x => x ^^^ v)) = kd (s.map fun x => x ^^^ v) := kd_merge _ [] (by rw [List.nil_append]; exact tn)
          rw [mk]
          have hd2 : (upd (upd H2 d (.dK (kd s))) dd (.dK (kd (s.map fun x => x ^^^ v)))) d = some (.dK (kd s)) := new_at upd_same hdd
          refine ⟨d, dd, _, _, rfl, rfl, hd2, upd_same, (fun z => by rw [z] at hd2; rw [z, upd_same] at hdd; cases hdd), ?_, ?_⟩
          · rw [kd_len, kd_len, List.length_map]
            exact Nat.le_trans (Nat.add_le_add hs hs) (by decide)
          · rw [kd_merge _ _ e.nd]
            refine ⟨_, _, _, rfl, fun c u ec => ?_, upd_same, e, ?_⟩
            · have n := ne_of_none ec hd
              have e1 := smD c u n (sm1 c u ec)
              rw [upd_ne n]
              have e2 : (upd H2 d (.dK (kd s))) c = some u := (upd_ne n).trans e1
              exact new_at e2 hdd
            · rw [List.length_append, List.length_map, Nat.pow_succ]
              omega
    · rintro σ H1 ⟨s, t2, t3, rfl, sm1, hd1, hE, hlen⟩
      rw [nv_len, List.take_length] at hE
      rw [nv_len] at hlen
      refine ⟨_, rfl, d, kd s, s.map (fun n : Nat => (n : Int)), rfl, .inl hd1, kd_keys s, fun ys q pm srt hq => ?_⟩
      obtain ⟨F, eF, pF, sF⟩ := sort_nats pm srt
      exact k q F _ (keep_new sm1 hq) (by rw [upd_same, eF]) (hE.all pF sF) (by rw [pF.length_eq]; exact Nat.le_trans hlen (pwr _ hl))

/-! ### _law_rank -/
def spRank (K : PySem.W.Frag) : Sp := fun vs H Q _ => ∃ (p : Addr) (vv : List Nat), vs = [.ref p] ∧ H p = some (.tup (nv vv)) ∧ vv.length ≤ 11 ∧ ∀ (H' : Hp), Same H H' → Q (.int ((GF.red0 vv).length : Nat)) H'
theorem scRank : FnScope ["_law_lot_here"] ["_law_lot_here"] (defScope sRank) := ⟨rfl, rfl, rfl, by decide +kernel, rfl, by decide +kernel, by decide +kernel⟩
theorem intBits_pow (k : Nat) : ((Builtin.Int.intBits (((2 ^ k : Nat) : Nat) : Int) : Nat) : Int) - 1 = (k : Int) := by
  have h := Nat.two_pow_pos k
  have e : Builtin.Int.intBits (((2 ^ k : Nat) : Nat) : Int) = (2 ^ k : Nat).log2 + 1 := by
    unfold Builtin.Int.intBits
    rw [if_neg (by rw [beq_iff_eq]; exact fun z => Nat.ne_of_gt h (Int.ofNat_inj.mp z))]
    rfl
  rw [e, Nat.log2_two_pow]
  omega
theorem ok_rank {f f1 : Addr} {fd fd1 : FuncData} (A0 : At K mg "_law_rank" sRank ["_law_lot_here"] f fd) (A1 : At K mg "_law_all_of" sAllOf ["_law_lot_here"] f1 fd1) (T : Txt K mg) : FnOk P w K mg base CX0 2 f fd ["_law_lot_here"] (spRank K) := by
  have G1 : FnOk P w K mg base CX0 1 f1 fd1 ["_law_lot_here"] (spAllOf K) := ok_allOf A1 T
  refine A0.fn.ok scRank (fun vs H Q E h => ?_) (fun cdv A outer s H vs Q E hr h => ?_)
  · obtain ⟨p, vv, rfl, _⟩ := h
    rfl
  · obtain ⟨p, vv, rfl, hp, hl, k⟩ := h
    refine ⟨_, pss_one (ps_ret (pe_op op_sub (pe_bits (pe_callB call_len_seq (by rfl) T.len PySem.boot_len (pa_cons (pe_call G1 hr (by rfl) A1.mg A1.fn.kp A1.bi .nil pass0 (pa_cons (pv 0) pa_nil)) pa_nil))) pe_int)), ?_⟩
    refine ⟨_, rfl, p, vv, rfl, hp, hl, fun q E H1 sm1 hq hA lE => ?_⟩
    refine ⟨q, _, rfl, .inl (SqL.of hq), _, rfl, _, _, rfl, rfl, ?_⟩
    refine qv ?_ (k H1 sm1)
    rw [nv_len, GF.all_len hA]
    exact congrArg V.int (intBits_pow _)
end
section
variable {X : Cx}
/-! ### set(t), t a tuple of ints -/
def rSetT (K : PySem.W.Frag) (w : World) : List V → Hp → VK → Prop := fun xs H Q => ∃ (p : Addr) (ns : List Int), xs = [.ref p] ∧ SqT K H p (ns.map V.int) ∧ ns.length ≤ 1000 ∧
  ∀ (a : Addr) (n : Nat), H a = none → n ≤ ns.length → Q (.ref a) (upd H a (SetO w a (fun j => decide (j ∈ ns)) n))
theorem cr_setT (hc : X.calm = true) : CallR X (.type "set") (rSetT X.K X.w) := by
  intro pins s σ H xs us Q I r h
  obtain ⟨p, ns, rfl, hs, hl, q⟩ := h
  obtain ⟨its, rv, pl, hz⟩ := I.tuple hs
  rw [Vals.ref1 r]
  refine call_set_tupI ns (I.ok.hd hc) pl (by simpa using RZ.intsAre_vals rv) (by unfold scanBound; omega) fun h' tk c hS hcl hk => ?_
  exact ⟨.ref _, upd H s.heap.objs.size (SetO X.w s.heap.objs.size (fun j => decide (j ∈ ns)) c), I.laid (t' := tk) hk (Nat.le_refl _) (setO_new hS), rfl, q _ c (I.hok.fresh (Nat.le_refl _)) hcl⟩
end
end X1
set_option Elab.async false
set_option maxRecDepth 100000
set_option maxHeartbeats 4000000
namespace X1
open PySem L2
open GF (pc par pc_0 pc_eq par_lt InS Can Red Els All Part)
section
variable {P : Program} {w : World} {K : PySem.W.Frag} {mg : Str → Option Value} {base : Heap}
def spAllOfN (K : PySem.W.Frag) : Sp := fun vs H Q _ => ∃ (p : Addr) (vv : List Nat), vs = [.ref p] ∧ H p = some (.tup (nv vv)) ∧ vv.length ≤ 11 ∧
  ∀ (q : Addr) (E : List Nat) (H' : Hp), H q = none → Same H H' → H' q = some (.lst (nv E)) → All E vv → E.length ≤ 2048 → Q (.ref q) H'
theorem ok_allOfN {f : Addr} {fd : FuncData} (A0 : At K mg "_law_all_of" sAllOf ["_law_lot_here"] f fd) (T : Txt K mg) : FnOk P w K mg base CX0 1 f fd ["_law_lot_here"] (spAllOfN K) := by
  refine A0.fn.ok scAllOf (fun vs H Q E h => ?_) (fun cdv A outer s H vs Q E hr h => ?_)
  · obtain ⟨p, vv, rfl, _⟩ := h
    rfl
  · obtain ⟨p, vv, rfl, hp, hl, k⟩ := h
    have pwr : ∀ j : Nat, j ≤ 11 → 2 ^ j ≤ 2048 := by decide
    refine ⟨_, ((pss_cons (ps_set (i := 1) scAllOf.nd rfl (Or.inl rfl) (pe_disp (pps_cons pe_int pe_bl pps_nil) rfl rfl (by decide) (by decide)))
      (pss_cons (ps_for PassesOwn.never rfl (pi_tup (pv 0)) (pg_name (i := 2) scAllOf.nd rfl (Or.inr rfl)) (pss_one (ps_if (pt_cmp (pc_dnotin (hu_of hr) (pv 2) (pv 1)) (by rfl)) (pss_one (ps_expr (pe_bm PySem.F.plainAttrs_dict PySem.F.slot_dict_update PySem.F.type_dict_update G.mt_dupd (pv 1) (pa_cons (pe_callTy (call_dictP rfl) (by rfl) T.dict (by decide +kernel) (pa_cons (pe_lock (pe_lc (own := [("_law_spot", 3)]) (g := gName 3) (tt := tYes) rfl scAllOf.nd (pi_keys (pv 1)) (blkOk_by (N := ["_law_lot_here", "_law_found", "_law_one", "_law_spot"]) (sc := defScope sAllOf) (by decide +kernel)) (fun _ _ _ _ _ => pg_name (i := 3) scAllOf.nd rfl (Or.inl rfl)) (fun _ _ _ _ _ => pts_nil) (fun _ _ _ _ _ => pe_tup (pa_cons (pe_op op_xor (pv 2) (pv 3)) (pa_cons pe_bl pa_nil))))) pa_nil)) pa_nil)))) pss_nil)))
      (pss_one (ps_ret (pe_callB (G.cr_sortedAny rfl) (by rfl) T.sorted (by decide +kernel) (pa_cons (pv 1) pa_nil))))))), ?_⟩
    intro d hd
    refine ⟨upd_same, [(Sum.inl 0, V.bl true)], rfl, by decide, ?_⟩
    have ndp : p ≠ d := ne_of_none hp hd
    have hmk : mergeK [] [((Sum.inl 0 : Key), V.bl true)] = kd [0] := rfl
    rw [hmk]
    have sm0 : Same H (upd (upd H d (.dK [])) d (.dK (kd [0]))) := fun c u e => by
      have n := ne_of_none e hd
      rw [upd_ne n, upd_ne n]
      exact e
    refine ⟨_, rfl, p, rfl, ⟨_, SqT.of (sm0 _ _ hp)⟩, ?_⟩
    refine for_tup (K := K) (a := p) (xs := nv vv) (fun i σ H' => ∃ (s : List Nat) (t2 t3 : Option V), σ = [some (.ref p), some (.ref d), t2, t3] ∧ Same H H' ∧ H' d = some (.dK (kd s)) ∧ Els s (vv.take i) ∧ s.length ≤ 2 ^ i)
      ⟨[0], none, none, rfl, sm0, upd_same, GF.els_0, Nat.le_refl _⟩ (fun i σ H' _ ⟨_, _, _, _, sm, _⟩ => SqT.of (sm _ _ hp)) ?_ ?_
    · rintro i y σ H1 hy ⟨s, t2, t3, rfl, sm1, hd1, hE, hlen⟩
      obtain ⟨v, ev, rfl, hi⟩ := nv_at hy
      have hs : s.length ≤ 2048 := Nat.le_trans hlen (pwr i (by omega))
      have ea : vv.take (i + 1) = vv.take i ++ [v] := by
        rw [List.take_add_one, ev]
        rfl
      rw [ea]
      refine ⟨_, rfl, _, rfl, d, _, rfl, DGet.k (k := Sum.inl (v : Int)) hd1, _, rfl, ?_⟩
      rw [kd_is]
      by_cases hv : v ∈ s
      · refine iteFb (by rw [decide_eq_true hv]; rfl) ?_
        exact ⟨s, _, _, rfl, sm1, hd1, hE.old ((hE.iff v).mp hv), Nat.le_trans hlen (Nat.pow_le_pow_right (by decide) (Nat.le_succ i))⟩
      · refine iteTb (by rw [decide_eq_false hv]; rfl) ?_
        have e := hE.new fun z => hv ((hE.iff v).mpr z)
        refine ⟨_, rfl, .inr (.inr (.inl ⟨rfl, .inl ⟨_, hd1⟩⟩)), d, _, hd1, trivial, fun od => ?_⟩
        refine ⟨_, rfl, d, od, rfl, .inl ⟨kd s, upd_same, fun D hD => ?_⟩⟩
        have ndD : d ≠ D := fun z => by
          rw [z, upd_same] at hD
          cases hD
        have hD1 : H1 D = none := by
          rw [upd_ne ndD.symm] at hD
          exact hD
        refine lc_it walk_keys (fun j H' => (∀ c u, c ≠ d → c ≠ D → H1 c = some u → H' c = some u) ∧ H' d = some (.frz od (.dK (kd s))) ∧ ∃ ps : List Addr, H' D = some (.lst (ps.map V.ref)) ∧ ps.length = j ∧ Paired (fun q (x : Nat) => H' q = some (.tup [V.int (x : Int), V.bl true])) ps ((s.take j).map fun x => x ^^^ v))
          ⟨fun c u n1 n2 e => by rw [upd_ne n2, upd_ne n1]; exact e, by rw [upd_ne ndD]; exact upd_same, [], upd_same, rfl, .nil⟩ (fun j H' _ ⟨_, s2, _⟩ => s2) ?_ ?_
        · rintro j x H2 H3 hj ⟨s1, s2, ps, s3, s4, s5⟩ ⟨rfl, kk, vx, ek, rfl⟩
          obtain ⟨m, em, rfl, hjl⟩ := kd_at ek
          refine ⟨rfl, yes (iteT ?_)⟩
          refine ⟨_, rfl, _, rfl, _, _, rfl, rfl, (by show 2 ≤ sizeLine; decide), fun tq ht => ?_⟩
          have nDt : D ≠ tq := ne_of_none s3 ht
          have ndt : d ≠ tq := ne_of_none s2 ht
          refine ⟨_, (by rw [upd_ne nDt]; exact s3), ?_, ?_, ?_, ps ++ [tq], ?_, ?_, ?_⟩
          · rw [List.length_map, s4]
            exact Nat.lt_of_lt_of_le hjl (Nat.le_trans hs (by decide))
          · intro c u n1 n2 e
            rw [upd_ne n2, upd_ne (ne_of_none (s1 c u n1 n2 e) ht)]
            exact s1 c u n1 n2 e
          · rw [upd_ne ndD, upd_ne ndt]
            exact s2
          · rw [upd_same, List.map_append]
            rfl
          · rw [List.length_append, s4]
            rfl
          · rw [List.take_add_one, em, List.map_append]
            refine paired_snoc (L2.Paired.mapP s5 fun q x h => ?_) ?_
            · have nq : q ≠ D := fun z => by
                rw [z, s3] at h
                cases h
              rw [upd_ne nq, upd_ne (ne_of_none h ht)]
              exact h
            · rw [upd_ne nDt.symm, upd_same]
              show some (HO.tup [V.int (Builtin.bitXor (v : Int) (m : Int)), V.bl true]) = some (HO.tup [V.int ((m ^^^ v : Nat) : Int), V.bl true])
              rw [Bits.bitXor_pp (Int.natCast_nonneg v) (Int.natCast_nonneg m), Nat.xor_comm m v]
              rfl
        · rintro H2 ⟨s1, s2, ps, s3, s4, s5⟩
          rw [kd_len, List.take_length] at s5
          have smD : ∀ c u, c ≠ d → H1 c = some u → H2 c = some u := fun c u n e => s1 c u n (ne_of_none e hD1) e
          refine ⟨s2, ?_⟩
          have eD : (upd H2 d (.dK (kd s))) D = some (.lst (ps.map V.ref)) := by
            rw [upd_ne ndD.symm]
            exact s3
          have tn : (s.map fun x => x ^^^ v).Nodup := (List.nodup_append.mp e.nd).2.1
          refine ⟨D, ps, kd (s.map fun x => x ^^^ v), rfl, SqL.of eD, ?_, fun dd hdd => ?_⟩
          · exact paired_kd (L2.Paired.mapP s5 fun q x h => by
              have nq : q ≠ d := fun z => by
                rw [z, s2] at h
                cases h
              exact SqT.of (by rw [upd_ne nq]; exact h))
          have mk : mergeK [] (kd (s.map fun x => x ^^^ v)) = kd (s.map fun x => x ^^^ v) := kd_merge _ [] (by rw [List.nil_append]; exact tn)
          rw [mk]
          have hd2 : (upd (upd H2 d (.dK (kd s))) dd (.dK (kd (s.map fun x => x ^^^ v)))) d = some (.dK (kd s)) := new_at upd_same hdd
          refine ⟨d, dd, _, _, rfl, rfl, hd2, upd_same, (fun z => by rw [z] at hd2; rw [z, upd_same] at hdd; cases hdd), ?_, ?_⟩
          · rw [kd_len, kd_len, List.length_map]
            exact Nat.le_trans (Nat.add_le_add hs hs) (by decide)
          · rw [kd_merge _ _ e.nd]
            refine ⟨_, _, _, rfl, fun c u ec => ?_, upd_same, e, ?_⟩
            · have n := ne_of_none ec hd
              have e1 := smD c u n (sm1 c u ec)
              rw [upd_ne n]
              have e2 : (upd H2 d (.dK (kd s))) c = some u := (upd_ne n).trans e1
              exact new_at e2 hdd
            · rw [List.length_append, List.length_map, Nat.pow_succ]
              omega
    · rintro σ H1 ⟨s, t2, t3, rfl, sm1, hd1, hE, hlen⟩
      rw [nv_len, List.take_length] at hE
      rw [nv_len] at hlen
      refine ⟨_, rfl, d, kd s, s.map (fun n : Nat => (n : Int)), rfl, .inl hd1, kd_keys s, fun ys q pm srt hq => ?_⟩
      obtain ⟨F, eF, pF, sF⟩ := sort_nats pm srt
      have nq : H q = none := by
        cases e : H q with
        | none => rfl
        | some u =>
          rw [sm1 _ _ e] at hq
          cases hq
      exact k q F _ nq (keep_new sm1 hq) (by rw [upd_same, eF]) (hE.all pF sF) (by rw [pF.length_eq]; exact Nat.le_trans hlen (pwr _ hl))

end
end X1
set_option Elab.async false
set_option maxRecDepth 100000
set_option maxHeartbeats 4000000
namespace X1
open PySem L2
open GF (pc par pc_0 pc_eq par_lt InS Can Red)
open G (spInit spInit0 ClsFn FunD KxC Kept Flies mkO_of0)
abbrev sI0 : Stmt := inClass (top 1) 0
abbrev sI4 : Stmt := inClass (top 4) 0
/-- what the defs ask of the classes -/
structure Exc (K : PySem.W.Frag) (mg : Str → Option Value) (CB CD CW CM f0 f4 : Addr) (fd0 fd4 : FuncData) : Prop where
  gB : mg "BankError" = some (.ref CB)
  gD : mg "Dependent" = some (.ref CD)
  gW : mg "InvalidWidth" = some (.ref CW)
  gM : mg "InvalidMap" = some (.ref CM)
  oD : OexC K CD
  noV : PySem.W.findIn K (.ref CD) "value" = some none
  iD : PySem.W.findIn K (.ref CD) "__init__" = some (some (.ref f4))
  tI : PySem.W.typeIn K (.ref f4) = some (.type "function")
  F0 : FunD K "__init__" "BankError.__init__" sI0 f0 fd0
  b0 : Binds K fd0 ["self", "value"] [.none]
  F4 : FunD K "__init__" "Dependent.__init__" sI4 f4 fd4
  b4 : Binds K fd4 ["self"] []
  cB : ClsFn K CB f0 "__init__"
  kx : KxC K CD
  te : PySem.W.exmOne K (.ref CD) (.ref CB) = some true
  nW : PySem.W.kitOne K (.ref CD) (.ref CW) = some false
  nM : PySem.W.kitOne K (.ref CD) (.ref CM) = some false
section
variable {P : Program} {w : World} {K : PySem.W.Frag} {mg : Str → Option Value} {base : Heap}
theorem scI0 : FnScope ["self", "value"] ["self", "value"] (defScope sI0) := ⟨rfl, rfl, rfl, by decide +kernel, rfl, by decide +kernel, by decide +kernel⟩
theorem scI4 : FnScope ["self"] ["self"] (defScope sI4) := ⟨rfl, rfl, rfl, by decide +kernel, rfl, by decide +kernel, by decide +kernel⟩
theorem ok_init0 {CB CD CW CM f0 f4 : Addr} {fd0 fd4 : FuncData} (EX : Exc K mg CB CD CW CM f0 f4 fd0 fd4) : FnOk P w K mg base CX0 1 f0 fd0 ["self", "value"] (spInit K) := by
  refine EX.F0.ok scI0 (fun vs H Q E h => ?_) (fun cdv A outer s H vs Q E hr h => ?_)
  · obtain ⟨a, C, v, rfl, _⟩ := h
    rfl
  · obtain ⟨a, C, v, rfl, T, hno, ha, k⟩ := h
    refine ⟨_, pss_one (ps_ost (pv 0) (pv 1)), ?_⟩
    exact ⟨_, rfl, _, rfl, a, C, rfl, T, hno, .inl ⟨ha, k⟩⟩
theorem ok_init4 {CB CD CW CM f0 f4 : Addr} {fd0 fd4 : FuncData} (EX : Exc K mg CB CD CW CM f0 f4 fd0 fd4) : FnOk P w K mg base CX0 2 f4 fd4 ["self"] (spInit0 K) := by
  have G0 : FnOk P w K mg base CX0 1 f0 fd0 ["self", "value"] (spInit K) := ok_init0 EX
  refine EX.F4.ok scI4 (fun vs H Q E h => ?_) (fun cdv A outer s H vs Q E hr h => ?_)
  · obtain ⟨a, C, rfl, _⟩ := h
    rfl
  · obtain ⟨a, C, rfl, T, hno, ha, k⟩ := h
    refine ⟨_, pss_one (ps_expr (G.pe_clsfn G0 hr EX.cB (by rfl) EX.gB EX.b0 (dvs := [.non]) (.cons rfl .nil) pass0 (pa_cons (pv 0) pa_nil))), ?_⟩
    exact ⟨_, rfl, a, C, .non, rfl, T, hno, ha, k⟩
/-! ### are_independent -/
def spInd (K : PySem.W.Frag) : Sp := fun vs H Q _ => ∃ (p : Addr) (vv : List Nat), vs = [.ref p] ∧ H p = some (.tup (nv vv)) ∧ vv.length ≤ 1000 ∧ ∀ H', Same H H' → Q (.bl (decide ((GF.red0 vv).length = vv.length))) H'
theorem scInd : FnScope ["masks"] ["masks"] (defScope sInd) := ⟨rfl, rfl, rfl, by decide +kernel, rfl, by decide +kernel, by decide +kernel⟩
theorem ok_ind {f f1 f2 : Addr} {fd fd1 fd2 : FuncData} (A0 : At K mg "are_independent" sInd ["masks"] f fd) (AR : At K mg "reduced" sRed ["vectors"] f1 fd1) (AM : At K mg "remainder" sRem ["rows", "vector"] f2 fd2) (T : Txt K mg) :
    FnOk P w K mg base CX0 3 f fd ["masks"] (spInd K) := by
  have GR : FnOk P w K mg base CX0 2 f1 fd1 ["vectors"] (spRed K true) := ok_redT AR AM T
  refine A0.fn.ok scInd (fun vs H Q E h => ?_) (fun cdv A outer s H vs Q E hr h => ?_)
  · obtain ⟨p, vv, rfl, _⟩ := h
    rfl
  · obtain ⟨p, vv, rfl, hp, hl, k⟩ := h
    refine ⟨_, pss_one (ps_ret (pe_cmpR op_eq (pe_callB call_len_seq (by rfl) T.len PySem.boot_len (pa_cons (pe_call GR hr (by rfl) AR.mg AR.fn.kp AR.bi .nil pass0 (pa_cons (pv 0) pa_nil)) pa_nil)) (pe_callB call_len_seq (by rfl) T.len PySem.boot_len (pa_cons (pv 0) pa_nil)) (nomark _))), ?_⟩
    refine ⟨_, rfl, p, vv, rfl, (by show (if true = true then SqT K H p (nv vv) else SqL K H p (nv vv)); exact SqT.of hp), hl, fun q L H1 _ sm hq _ RL _ sL => ?_⟩
    refine ⟨q, _, rfl, .inr (SqT.of hq), _, rfl, p, _, rfl, .inr (SqT.of (sm _ _ hp)), rfl, ?_⟩
    have e : L.length = (GF.red0 vv).length := GF.indep_len (GF.red_indep RL) (GF.red_indep (GF.red0_red vv)) fun x => (sL x).trans (GF.red0_span vv x).symm
    refine qv ?_ (k H1 sm)
    rw [nv_len, nv_len, e]
    congr 1
    rw [Bool.eq_iff_iff, decide_eq_true_iff, decide_eq_true_iff]
    exact ⟨fun z => Int.ofNat_inj.mp (V.int.inj z), fun z => by rw [z]⟩
end
end X1
set_option Elab.async false
set_option maxRecDepth 100000
set_option maxHeartbeats 4000000
namespace GF
theorem new_iff (C : List Nat) (v : Nat) : rem (red0 C) v = 0 ↔ InS C v := (rem_zero (red0_red C) v).trans (red0_span C v)
/-- those of the vectors that are new, one behind the other -/
def pick (C : List Nat) : List Nat → List Nat
  | [] => []
  | v :: vs => if rem (red0 C) v = 0 then pick C vs else v :: pick (C ++ [v]) vs
theorem pick_snoc (v : Nat) : ∀ (a C : List Nat), pick C (a ++ [v]) = pick C a ++ (if rem (red0 (C ++ pick C a)) v = 0 then [] else [v])
  | [], C => by
    show (if rem (red0 C) v = 0 then [] else [v]) = (if rem (red0 (C ++ [])) v = 0 then [] else [v])
    rw [List.append_nil]
  | u :: a, C => by
    show pick C (u :: (a ++ [v])) = _
    unfold pick
    by_cases h : rem (red0 C) u = 0
    · rw [if_pos h, if_pos h, pick_snoc v a C]
    · rw [if_neg h, if_neg h, pick_snoc v a (C ++ [u]), List.append_assoc]
      rfl
theorem pick_len : ∀ (vs C : List Nat), (pick C vs).length ≤ vs.length
  | [], C => Nat.le_refl _
  | v :: vs, C => by
    unfold pick
    split
    · exact Nat.le_succ_of_le (pick_len vs C)
    · exact Nat.succ_le_succ (pick_len vs _)
theorem comp_pick {vv : List Nat} (h : Indep vv) : ∀ n, comp vv n = vv ++ pick vv ((List.range n).map (2 ^ ·))
  | 0 => by rw [comp_0]; exact (List.append_nil vv).symm
  | n + 1 => by
    have ih := comp_pick h n
    rw [comp_next, List.range_succ, List.map_append]
    show compS (comp vv n) n = vv ++ pick vv ((List.range n).map (2 ^ ·) ++ [2 ^ n])
    rw [pick_snoc, ← List.append_assoc, ← ih]
    unfold compS
    have hi : Indep (comp vv n) := (comp_is h n).ind
    have key : (red0 (comp vv n ++ [2 ^ n])).length = (comp vv n ++ [2 ^ n]).length ↔ ¬ rem (red0 (comp vv n)) (2 ^ n) = 0 := by
      rw [indep_iff, indep_snoc hi, new_iff]
    by_cases c : rem (red0 (comp vv n)) (2 ^ n) = 0
    · rw [if_neg (fun z => key.mp z c), if_pos c, List.append_nil]
    · rw [if_pos (key.mpr c), if_neg c]
end GF
namespace X1
open PySem L2
open GF (pc par pc_0 pc_eq par_lt InS Can Red Indep comp)
open G (spInit spInit0 ClsFn FunD KxC Kept Flies mkO_of0)
/-! ### tuples of numbers, put together -/
theorem red_le {L : List Nat} {w : Nat} (R : Red L) (hw : ∀ r ∈ L, r < 2 ^ w) : L.length ≤ w := by
  have dec : ∀ j, Decidable (GF.isFree L j) := fun j => Classical.propDecidable _
  have := GF.free_count R hw (js := (List.range w).filter fun j => @decide (GF.isFree L j) (dec j)) (List.nodup_range.sublist List.filter_sublist) fun j => by rw [List.mem_filter, List.mem_range, decide_eq_true_iff]
  omega
theorem nv_app (a b : List Nat) : nv (a ++ b) = nv a ++ nv b := by unfold nv; rw [List.map_append]
theorem nv_nil {l : List Nat} (h : nv l = []) : l = [] := by
  unfold nv at h
  exact List.map_eq_nil_iff.mp h
section
variable {X : Cx}
def rCatN (K : PySem.W.Frag) : R2 := fun x y H Q => ∃ (a b : Addr) (xs ys : List Nat), x = .ref a ∧ y = .ref b ∧ H a = some (.tup (nv xs)) ∧ H b = some (.tup (nv ys)) ∧ xs.length + ys.length ≤ 1000 ∧ ∀ (r : Addr) (H' : Hp), Same H H' → H' r = some (.tup (nv (xs ++ ys))) → Q (.ref r) H'
theorem op_catN : OpR X (binaryOp .Add) (rCatN X.K) := fun pins s σ H x y v u Q I rx ry h => op_catA pins s σ H x y v u Q I rx ry (by
  obtain ⟨a, b, xs, ys, rfl, rfl, ha, hb, hl, k⟩ := h
  refine ⟨a, b, nv xs, nv ys, rfl, rfl, SqT.of ha, SqT.of hb, by rw [nv_len, nv_len]; exact Nat.le_trans hl (by decide), fun e => ?_, fun _ e => ?_, fun _ _ p hp => ?_⟩
  · have e := nv_nil e
    subst e
    exact k b H (Same.refl H) hb
  · have e := nv_nil e
    subst e
    exact k a H (Same.refl H) (by rw [List.append_nil]; exact ha)
  · exact k p _ (keep_new (Same.refl H) hp) (by rw [upd_same, nv_app]))
end
section
variable {P : Program} {w : World} {K : PySem.W.Frag} {mg : Str → Option Value} {base : Heap}
/-! ### independent -/
def spIndepN (K : PySem.W.Frag) : Sp := fun vs H Q _ => ∃ (p q : Addr) (kk vv : List Nat), vs = [.ref p, .ref q] ∧ H p = some (.tup (nv kk)) ∧ H q = some (.lst (nv vv)) ∧ kk.length + vv.length ≤ 900 ∧
  ∀ (z : Addr) (H' : Hp), Same H H' → H' z = some (.tup (nv (GF.pick kk vv))) → Q (.ref z) H'
theorem scIndepN : FnScope ["known", "vectors", "chosen", "rows", "vector"] ["known", "vectors"] (defScope sIndepN) := ⟨rfl, rfl, rfl, by decide +kernel, rfl, by decide +kernel, by decide +kernel⟩
theorem ok_indepN {f f1 f2 : Addr} {fd fd1 fd2 : FuncData} (A0 : At K mg "independent" sIndepN ["known", "vectors"] f fd) (AM : At K mg "remainder" sRem ["rows", "vector"] f1 fd1) (AR : At K mg "reduced" sRed ["vectors"] f2 fd2) (T : Txt K mg) :
    FnOk P w K mg base CX0 3 f fd ["known", "vectors"] (spIndepN K) := by
  have GT : FnOk P w K mg base CX0 2 f2 fd2 ["vectors"] (spRed K true) := ok_redT AR AM T
  have GM : FnOk P w K mg base CX0 1 f1 fd1 ["rows", "vector"] (spRemT K) := ok_remT AM T
  refine A0.fn.ok scIndepN (fun vs H Q E h => ?_) (fun cdv A outer s H vs Q E hr h => ?_)
  · obtain ⟨p, q, kk, vv, rfl, _⟩ := h
    rfl
  · obtain ⟨p, q, kk, vv, rfl, hp, hq, hl, k⟩ := h
    have hr1 : Room 1 _ := hr.mono (by decide)
    have hr2 : Room 2 _ := hr
    refine ⟨_, (pss_cons (ps_set (i := 2) scIndepN.nd rfl (Or.inl rfl) (pe_lst pa_nil))
      (pss_cons (ps_set (i := 3) scIndepN.nd rfl (Or.inl rfl) (pe_call GT hr2 (by rfl) AR.mg AR.fn.kp AR.bi .nil pass0 (pa_cons (pv 0) pa_nil)))
      (pss_cons (ps_for PassesOwn.never rfl (pi_list (pv 1)) (pg_name (i := 4) scIndepN.nd rfl (Or.inl rfl)) (pss_one (ps_if (pt_cmpR op_gt (pe_call GM hr1 (by rfl) AM.mg AM.fn.kp AM.bi .nil pass0 (pa_cons (pv 3) (pa_cons (pv 4) pa_nil))) pe_int (nomark _))
        (pss_cons (ps_expr (pe_bm PySem.F.plainAttrs_list PySem.F.slot_list_append PySem.F.type_list_append mt_append (pv 2) (pa_cons (pv 4) pa_nil)))
        (pss_one (ps_set (i := 3) scIndepN.nd rfl (Or.inl rfl) (pe_call GT hr2 (by rfl) AR.mg AR.fn.kp AR.bi .nil pass0 (pa_cons (pe_op op_catN (pv 3) (pe_tup (pa_cons (pv 4) pa_nil))) pa_nil))))) pss_nil)))
      (pss_one (ps_ret (pe_callTy call_tuple_of (by rfl) T.tuple (by decide +kernel) (pa_cons (pv 2) pa_nil))))))), ?_⟩
    refine ⟨by show 0 ≤ sizeLine; decide, fun c hc => ?_⟩
    have npc : p ≠ c := ne_of_none hp hc
    have nqc : q ≠ c := ne_of_none hq hc
    refine ⟨_, rfl, p, kk, rfl, SqT.of ((upd_ne npc).trans hp), by omega, fun r0 R0 H1 _ sm1 hr0 cR rR lR sR => ?_⟩
    have s0 : ∀ x u, x ≠ c → H x = some u → H1 x = some u := fun x u n e => sm1 _ _ ((upd_ne n).trans e)
    refine ⟨_, rfl, q, rfl, ⟨_, SqL.of (s0 _ _ nqc hq)⟩, ?_⟩
    refine for_list (K := K) (a := q) (xs := nv vv) (fun i σ H' => ∃ (r : Addr) (R : List Nat) (t4 : Option V), σ = [some (.ref p), some (.ref q), some (.ref c), some (.ref r), t4] ∧ (∀ x u, x ≠ c → H x = some u → H' x = some u) ∧ H' c = some (.lst (nv (GF.pick kk (vv.take i)))) ∧ H' r = some (.tup (nv R)) ∧
        Red R ∧ R.length ≤ kk.length + i ∧ ∀ x, InS R x ↔ InS (kk ++ GF.pick kk (vv.take i)) x)
      ⟨r0, R0, none, rfl, s0, sm1 _ _ upd_same, hr0, rR, by omega, fun x => by rw [sR, List.take_zero, show GF.pick kk [] = [] from rfl, List.append_nil]⟩ (fun i σ H' _ ⟨_, _, _, _, s, _⟩ => SqL.of (s _ _ nqc hq)) ?_ ?_
    · rintro i y σ H2 hy ⟨r, R, t4, rfl, s2, hc2, hr2', rR, lR, sR⟩
      obtain ⟨v, ev, rfl, hi⟩ := nv_at hy
      have et : vv.take (i + 1) = vv.take i ++ [v] := by rw [List.take_add_one, ev]; rfl
      have pl : (GF.pick kk (vv.take i)).length ≤ i := Nat.le_trans (GF.pick_len _ _) (by rw [List.length_take]; exact Nat.min_le_left _ _)
      have hrm : GF.rem R v = 0 ↔ GF.rem (GF.red0 (kk ++ GF.pick kk (vv.take i))) v = 0 := by rw [GF.rem_zero rR, GF.new_iff, sR]
      refine ⟨_, rfl, _, rfl, r, R, v, rfl, SqT.of hr2', _, _, rfl, rfl, _, rfl, ?_⟩
      by_cases h0 : GF.rem R v = 0
      · refine iteFb (decide_eq_false (by rw [h0]; decide)) ?_
        refine ⟨r, R, _, rfl, s2, ?_, hr2', rR, by omega, fun x => ?_⟩
        · rw [et, GF.pick_snoc, if_pos (hrm.mp h0), List.append_nil]; exact hc2
        · rw [et, GF.pick_snoc, if_pos (hrm.mp h0), List.append_nil]; exact sR x
      · refine iteTb (decide_eq_true (by omega)) ?_
        have hn : ¬ GF.rem (GF.red0 (kk ++ GF.pick kk (vv.take i))) v = 0 := fun z => h0 (hrm.mpr z)
        have nrc : r ≠ c := fun z => by rw [z, hc2] at hr2'; cases hr2'
        refine ⟨_, rfl, .inl ⟨rfl, _, SqL.of hc2⟩, _, rfl, c, _, _, rfl, rfl, hc2, by rw [nv_len]; exact Nat.lt_of_le_of_lt (Nat.le_trans pl (by omega : i ≤ 900)) (by decide), ?_⟩
        have hr3 : (upd H2 c (.lst (nv (GF.pick kk (vv.take i)) ++ [.int (v : Int)]))) r = some (.tup (nv R)) := (upd_ne nrc).trans hr2'
        refine ⟨_, rfl, _, rfl, (by show 1 ≤ sizeLine; decide), fun t ht => ?_⟩
        have hr4 := (fun h => new_at (p := r) (u := .tup (nv [v])) h ht) hr3
        refine ⟨r, t, R, [v], rfl, rfl, hr4, upd_same, by rw [List.length_singleton]; omega, fun z H5 sm5 hz => ?_⟩
        have ek : (upd (upd H2 c (.lst (nv (GF.pick kk (vv.take i)) ++ [.int (v : Int)]))) t (.tup (nv [v]))) c = some (.lst (nv (GF.pick kk (vv.take i)) ++ [.int (v : Int)])) := new_at upd_same ht
        refine ⟨z, R ++ [v], rfl, SqT.of hz, by rw [List.length_append, List.length_singleton]; omega, fun r' R' H6 _ sm6 hr6 cR' rR' lR' sR' => ?_⟩
        refine ⟨r', R', _, rfl, fun x u n e => sm6 _ _ (sm5 _ _ (new_at ((upd_ne n).trans (s2 x u n e)) ht)), ?_, hr6, rR', ?_, fun x => ?_⟩
        · rw [et, GF.pick_snoc, if_neg hn]
          have := sm6 _ _ (sm5 _ _ ek)
          rw [this]
          unfold nv
          rw [List.map_append]
          rfl
        · have e : (R ++ [v]).length = R.length + 1 := List.length_append
          omega
        · rw [et, GF.pick_snoc, if_neg hn, sR', ← List.append_assoc, GF.ins_snoc, GF.ins_snoc, sR, sR]
    · rintro σ H2 ⟨r, R, t4, rfl, s2, hc2, hr2', rR, lR, sR⟩
      rw [nv_len, List.take_length] at hc2
      refine ⟨_, rfl, c, _, rfl, .inl ⟨SqL.of hc2, fun l hl' => ?_⟩⟩
      exact k l _ (fun x u e => (new_at (s2 x u (ne_of_none e hc) e) hl')) upd_same
/-! ### completed -/
def spComp (K : PySem.W.Frag) (CD : Addr) : Sp := fun vs H Q E => ∃ (wd : Nat) (p : Addr) (vv : List Nat), vs = [.int (wd : Int), .ref p] ∧ 1 ≤ wd ∧ wd ≤ 16 ∧ H p = some (.tup (nv vv)) ∧ vv.length ≤ 16 ∧ (∀ v ∈ vv, v < 2 ^ wd) ∧
  (Indep vv → ∀ (q : Addr) (H' : Hp), Same H H' → H' q = some (.tup (nv (comp vv wd))) → Q (.ref q) H') ∧ (¬ Indep vv → ∀ H', Same H H' → Flies CD .non E H')
theorem scComp : FnScope ["width", "masks"] ["width", "masks"] (defScope sComp) := ⟨rfl, rfl, rfl, by decide +kernel, rfl, by decide +kernel, by decide +kernel⟩
theorem ok_comp {f f1 f2 f3 fk f4 f5 f6 f7 f8 f9 CB CD CW CM e0 e4 : Addr} {fd fd1 fd2 fd3 fdk fd4 fd5 fd6 fd7 fd8 fd9 fde0 fde4 : FuncData} (EX : Exc K mg CB CD CW CM e0 e4 fde0 fde4) (A0 : At K mg "completed" sComp ["width", "masks"] f fd) (A1 : At K mg "is_int" sIsInt ["value"] f1 fd1) (A2 : At K mg "is_address" sIsAddr ["width", "value"] f2 fd2)
    (A3 : At K mg "are_addresses" sAreAddrs ["width", "value", "most"] f3 fd3) (AK : At K mg "are_masks" sAreMasks ["width", "value"] fk fdk) (A4 : At K mg "check_width" sCkWidth ["width"] f4 fd4) (A5 : At K mg "check_map" sCkMap ["width", "masks"] f5 fd5)
    (AM : At K mg "remainder" sRem ["rows", "vector"] f6 fd6) (AR : At K mg "reduced" sRed ["vectors"] f7 fd7) (AP : At K mg "powers" sPowers ["width"] f8 fd8) (AI : At K mg "are_independent" sInd ["masks"] f9 fd9) (T : Txt K mg) :
    FnOk P w K mg base (L2.CX P w) 6 f fd ["width", "masks"] (spComp K CD) := by
  have G4 : FnOk P w K mg base CX0 3 f4 fd4 ["width"] spCkWidth := ok_ckWidth A4 A1 T
  have G5 : FnOk P w K mg base CX0 5 f5 fd5 ["width", "masks"] (spCkMap K) := ok_ckMap A5 A1 A2 A3 AK T
  have GP : FnOk P w K mg base CX0 1 f8 fd8 ["width"] spPowers := ok_powers AP T
  obtain ⟨fN, fdN, AN⟩ := T.isIndep
  have GN : FnOk P w K mg base CX0 3 fN fdN ["known", "vectors"] (spIndepN K) := ok_indepN AN AM AR T
  have GI : FnOk P w K mg base CX0 3 f9 fd9 ["masks"] (spInd K) := ok_ind AI AR AM T
  have GX : FnOk P w K mg base CX0 2 e4 fde4 ["self"] (spInit0 K) := ok_init4 EX
  refine A0.fn.okX scComp (fun vs H Q E h => ?_) (fun cdv A outer s H vs Q E hr h => ?_)
  · obtain ⟨wd, p, vv, rfl, _⟩ := h
    rfl
  · obtain ⟨wd, p, vv, rfl, w1, w2, hp, hl, hin, k, kx⟩ := h
    have hr1 : Room 1 _ := hr.mono (by decide)
    have hr2 : Room 2 _ := hr.mono (by decide)
    have hr3 : Room 3 _ := hr.mono (by decide)
    have hr5 : Room 5 _ := hr.mono (by decide)
    refine ⟨_, (pss_cons (ps_expr (pe_call G4 (hr.mono (by decide)) (by rfl) A4.mg A4.fn.kp A4.bi .nil pass0 (pa_cons (pv 0) pa_nil)))
      (pss_cons (ps_expr (pe_call G5 hr5 (by rfl) A5.mg A5.fn.kp A5.bi .nil pass0 (pa_cons (pv 0) (pa_cons (pv 1) pa_nil))))
      (pss_cons (ps_if (pt_not (pt_val (pe_call GI hr3 (by rfl) AI.mg AI.fn.kp AI.bi .nil pass0 (pa_cons (pv 1) pa_nil)))) (pss_one (ps_raise rfl (takes_of rfl rfl rfl rfl) (pmk_oex0 EX.oD EX.iD EX.tI GX hr3 EX.b4 .nil pass0 (by rfl) EX.gD))) pss_nil)
      (pss_one (ps_ret (pe_op op_catN (pv 1) (pe_call GN hr3 (by rfl) AN.mg AN.fn.kp AN.bi .nil pass0 (pa_cons (pv 1) (pa_cons (pe_call GP hr1 (by rfl) AP.mg AP.fn.kp AP.bi .nil pass0 (pa_cons (pv 0) pa_nil)) pa_nil))))))))), ?_⟩
    refine ⟨_, rfl, _, rfl, by omega, by omega, ?_⟩
    refine ⟨_, rfl, _, rfl, _, p, _, rfl, by omega, by omega, by rw [← nv_ints]; exact hp, by rw [List.length_map]; exact hl, inw_nv hin, fun H1 sm1 => ?_⟩
    refine ⟨_, rfl, p, vv, rfl, sm1 _ _ hp, by omega, fun H2 sm2 => ⟨_, rfl, ?_⟩⟩
    have sm12 := sm1.trans sm2
    by_cases hI : Indep vv
    case neg =>
      refine iteTb (by rw [decide_eq_false fun z => hI ((GF.indep_iff vv).mp z)]; rfl) ?_
      exact mkO_of0 EX.oD EX.noV (kx hI H2 sm12)
    refine iteFb (by rw [decide_eq_true ((GF.indep_iff vv).mpr hI)]; rfl) ?_
    refine ⟨_, rfl, _, rfl, _, rfl, wd, rfl, by omega, fun D H3 hD sm3 hd => ?_⟩
    have lp : ((List.range wd).map (2 ^ ·)).length = wd := by rw [List.length_map, List.length_range]
    refine ⟨p, D, vv, _, rfl, sm3 _ _ (sm12 _ _ hp), hd, by rw [lp]; omega, fun z H4 sm4 hz => ?_⟩
    have hpl := GF.pick_len ((List.range wd).map (2 ^ ·)) vv
    rw [lp] at hpl
    refine ⟨p, z, vv, _, rfl, rfl, sm4 _ _ (sm3 _ _ (sm12 _ _ hp)), hz, by omega, fun q' H5 sm5 hq' => ?_⟩
    rw [← GF.comp_pick hI] at hq'
    exact k hI q' H5 (((sm12.trans sm3).trans sm4).trans sm5) hq'

end
end X1
set_option Elab.async false
set_option maxRecDepth 100000
set_option maxHeartbeats 8000000
namespace X1
open PySem L2
open GF (pc par pc_0 pc_eq par_lt InS Can Red Indep comp Els All Part)
open G (spInit spInit0 ClsFn FunD KxC Kept Flies)
open LamX (GivesTo CodeO)
/-! ### what is shown of numbers -/
theorem num_shown {n : Nat} (h : n < 65536) : ((n : Int)).natAbs.log2 < 1920 ∧ (Str.ofString (toString (n : Int))).length ≤ 1921 := by
  have hlog : ((n : Int)).natAbs.log2 < 1920 := by
    by_cases z : ((n : Int)).natAbs = 0
    · rw [z]
      decide
    · exact (Nat.log2_lt z).mpr (Nat.lt_of_lt_of_le (show ((n : Int)).natAbs < 65536 by omega) (by decide +kernel))
  refine ⟨hlog, ?_⟩
  rw [ofString_length]
  exact int_text_length_le (by decide) hlog
def datL (l : List Nat) : List PyData := l.map fun n : Nat => PyData.int (n : Int)
theorem dp_nv {K : PySem.W.Frag} {H : Hp} : ∀ l : List Nat, DpAll K H (nv l) (datL l)
  | [] => .nil
  | n :: l => .cons (.int _) (dp_nv l)
theorem dat_facts : ∀ {l : List Nat}, (∀ n ∈ l, n < 65536) → PyData.showableAll (datL l) = true ∧ PyData.hasDictAll (datL l) = false ∧ PyData.depthAll (datL l) = 0 ∧ PyData.canLayAll0 (datL l) = true ∧ ((PyData.shownAll (datL l)).map (·.length)).sum ≤ 1921 * l.length ∧ (PyData.shownAll (datL l)).length = l.length
  | [], _ => ⟨rfl, rfl, rfl, rfl, Nat.le_refl _, rfl⟩
  | n :: l, h => by
    obtain ⟨a, b, c, d, e, f⟩ := dat_facts fun m hm => h m (List.mem_cons_of_mem _ hm)
    obtain ⟨h1, h2⟩ := num_shown (h n (List.mem_cons_self ..))
    refine ⟨?_, ?_, ?_, ?_, ?_, ?_⟩
    · show (decide (((n : Int)).natAbs.log2 < 1920) && PyData.showableAll (datL l)) = true
      rw [decide_eq_true h1, a]
      rfl
    · show (false || PyData.hasDictAll (datL l)) = false
      rw [b]
      rfl
    · show max 0 (PyData.depthAll (datL l)) = 0
      rw [c]
      rfl
    · show (true && PyData.canLayAll0 (datL l)) = true
      rw [d]
      rfl
    · show ((Str.ofString (toString (n : Int))).length + ((PyData.shownAll (datL l)).map (·.length)).sum) ≤ _
      rw [List.length_cons]
      omega
    · show (PyData.shownAll (datL l)).length + 1 = _
      rw [f, List.length_cons]
/-- what the law tells of a call -/
def dRet (L : List Nat) : PyData := .tuple [.str "returned", .tuple (datL L)]
def dDep : PyData := .tuple [.str "dependent", .none]
theorem ret_facts {L : List Nat} (hL : ∀ n ∈ L, n < 65536) (lL : L.length ≤ 1024) : (dRet L).showable = true ∧ (dRet L).hasDict = false ∧ (dRet L).depth ≤ 60 ∧ (dRet L).shown.length ≤ sizeLine := by
  obtain ⟨a', b', c', d', e', f'⟩ := dat_facts hL
  refine ⟨?_, ?_, ?_, ?_⟩
  · show (PyData.showable (.str "returned") && (PyData.showableAll (datL L) && true)) = true
    rw [a']
    decide +kernel
  · show (false || (PyData.hasDictAll (datL L) || false)) = false
    rw [b']
    rfl
  · show max 0 (max (PyData.depthAll (datL L) + 1) 0) + 1 ≤ 60
    rw [c']
    decide
  · show (tupleText [PyData.shown (.str "returned"), tupleText (PyData.shownAll (datL L))]).length ≤ sizeLine
    have h := tupleText_len_le [PyData.shown (.str "returned"), tupleText (PyData.shownAll (datL L))]
    have t2 := tupleText_len_le (PyData.shownAll (datL L))
    have t3 : (PyData.shown (.str "returned")).length ≤ 100 := by decide +kernel
    simp only [List.map_cons, List.map_nil, List.sum_cons, List.sum_nil, List.length_cons, List.length_nil] at h
    rw [sizeLine_eq]
    omega
theorem dep_facts : dDep.showable = true ∧ dDep.hasDict = false ∧ dDep.depth ≤ 60 ∧ dDep.shown.length ≤ sizeLine := by
  refine ⟨by decide +kernel, by decide +kernel, by decide +kernel, ?_⟩
  have t3 : dDep.shown.length ≤ 100 := by decide +kernel
  rw [sizeLine_eq]
  omega
/-! ### _law_told -/
def TTold (CD : Addr) : (XK → Hp → VK → Prop) → Hp → VK → Prop := fun tl H Q => ∀ Q' : VK, (∀ (q : Addr) (L : List Nat) (H' : Hp), H' q = some (.tup (nv L)) → L.length ≤ 64 → (∀ v ∈ L, v < 65536) → (∀ H2, Same H' H2 → Q (.str (dRet L).shown) H2) → Q' (.ref q) H') → ∀ H1, Same H H1 →
  tl (fun cls d H' => ∃ (dd : Addr) (v : V), cls = .ref CD ∧ d = some dd ∧ H' dd = some (.xd [("value", v)]) ∧ ∀ H2, Same H' H2 → Q (.str dDep.shown) H2) H1 Q'
theorem scTold : FnScope ["_law_ask", "_law_caught", "_law_found", "error"] ["_law_ask"] (defScope sTold) := ⟨rfl, rfl, rfl, by decide +kernel, rfl, by decide +kernel, by decide +kernel⟩
theorem told_gives {X : Cx} {CB CD CW CM e0 e4 : Addr} {fde0 fde4 : FuncData} (EX : Exc X.K X.mg CB CD CW CM e0 e4 fde0 fde4) (T : Txt X.K X.mg) (hr : Room 1 X.A) (hgu : X.A.guards = some []) {g : Addr} {cdg : Value} {q : Str} :
    GivesTo X ["_law_ask", "_law_caught", "_law_found", "error"] "_law_told" (defScope sTold) g cdg (defBody sTold) "_law_ask" q (TTold CD) := by
  intro f c' s H Q tl act hc h
  have hr0 : Room 0 (X.A.deeper (PyProof.Rows.envOfC "_law_told" (defScope sTold) s.heap.objs.size g cdg)) := hr.deeper _
  have hg0 : (X.A.deeper (PyProof.Rows.envOfC "_law_told" (defScope sTold) s.heap.objs.size g cdg)).guards = some [] := hgu
  refine ⟨_, (pss_cons (ps_asg (pe_tup (pa_cons pe_non (pa_cons pe_non pa_nil))) (pg_tup rfl (pgs_cons (pg_name (i := 1) scTold.nd rfl (Or.inl rfl)) (pgs_cons (pg_name (i := 2) scTold.nd rfl (Or.inl rfl)) pgs_nil))))
    (pss_cons (G.ps_try_keep (c := .ref CB) (i := 3)
        (tb := fun W D σ H => ∃ Ech : XK, (∀ cls d σ' H', Ech cls d H' → σ'.length = 4 → W cls d σ' H') ∧ σ[0]? = some (some (.ref f)) ∧ H c' = some (CodeO c' q) ∧ tl Ech H (fun v H' => D.nx (σ.set 2 (some v)) H'))
        rfl rfl rfl scTold.nd rfl rfl ⟨rfl, by decide, .inl EX.gB⟩ L2.takes0 (fun W pn xe tk _ => ?_) (fun a oe cls d pn _ _ => pss_one (ps_set (i := 1) scTold.nd rfl (Or.inl rfl) (pv 3))))
    (pss_cons (ps_if (pt_cmpR op_isN (pv 1) pe_non (nomark _)) (pss_one (ps_ret (pe_callB (G.call_repr_data (k := 0) hg0 hr0) (by rfl) T.repr (by decide +kernel) (pa_cons (pe_tup (pa_cons pe_str (pa_cons (pv 2) pa_nil))) pa_nil)))) pss_nil)
    (pss_cons (ps_if (pt_val (pe_callB G.call_isx (by rfl) T.isinstance (by decide +kernel) (pa_cons (pv 1) (pa_cons (pe_glob (v := .ref CW) (by rfl) EX.gW rfl) pa_nil)))) (pss_one (ps_ret (pe_callB (G.call_repr_data (k := 0) hg0 hr0) (by rfl) T.repr (by decide +kernel) (pa_cons (pe_tup (pa_cons pe_str (pa_cons (G.pe_xk (pv 1)) pa_nil))) pa_nil)))) pss_nil)
    (pss_cons (ps_if (pt_val (pe_callB G.call_isx (by rfl) T.isinstance (by decide +kernel) (pa_cons (pv 1) (pa_cons (pe_glob (v := .ref CM) (by rfl) EX.gM rfl) pa_nil)))) (pss_one (ps_ret (pe_callB (G.call_repr_data (k := 0) hg0 hr0) (by rfl) T.repr (by decide +kernel) (pa_cons (pe_tup (pa_cons pe_str (pa_cons (G.pe_xk (pv 1)) pa_nil))) pa_nil)))) pss_nil)
    (pss_cons (ps_if (pt_val (pe_callB G.call_isx (by rfl) T.isinstance (by decide +kernel) (pa_cons (pv 1) (pa_cons (pe_glob (v := .ref CD) (by rfl) EX.gD rfl) pa_nil)))) (pss_one (ps_ret (pe_callB (G.call_repr_data (k := 0) hg0 hr0) (by rfl) T.repr (by decide +kernel) (pa_cons (pe_tup (pa_cons pe_str (pa_cons pe_non pa_nil))) pa_nil)))) pss_nil)
    (pss_one (ps_ret pe_str)))))))), ?_⟩
  · refine ⟨fun pins s' σ H' D I h' => ?_⟩
    obtain ⟨Ech, hW, h1, h2, h3⟩ := h'
    exact (pss_one (ps_set (i := 2) scTold.nd rfl (Or.inl rfl) (act _ pn xe Ech _ _ (G.takes_len tk) fun cls d σ' H' e l => hW cls d σ' H' e l))).run pins s' σ H' D I ⟨h1, h2, h3⟩
  · refine ⟨by show 2 ≤ sizeLine; decide, fun t0 ht0 => ⟨t0, _, rfl, SqT.of upd_same, rfl, _, _, rfl, _, _, rfl, rfl, ?_⟩⟩
    refine ⟨_, fun cls d σ' H' e l => ?_, rfl, new_at hc ht0, h _ (fun qa L H' hq hl hlt k => ?_) _ (keep_new (Same.refl H) ht0)⟩
    · obtain ⟨dd, v, rfl, rfl, hdd, k⟩ := e
      match σ', l with
      | [x0, x1, x2, x3], _ =>
        refine ⟨true, EX.te, fun _ a ha => ?_, fun z => nomatch z⟩
        refine ⟨_, rfl, ?_⟩
        have nda : dd ≠ a := ne_of_none hdd ha
        have kp : Kept X.K (upd H' a (G.exk (.ref CD) (some dd) a)) a CD [("value", v)] := ⟨dd, upd_same, (upd_ne nda).trans hdd, EX.kx⟩
        refine ⟨_, rfl, rfl, _, rfl, iteFb (decide_eq_false fun z => by cases z) ?_⟩
        refine ⟨_, rfl, .ref a, .ref CW, .ref CW, false, rfl, .own CW, .inl ⟨a, CD, _, rfl, kp, EX.nW⟩, _, rfl, iteF ?_⟩
        refine ⟨_, rfl, .ref a, .ref CM, .ref CM, false, rfl, .own CM, .inl ⟨a, CD, _, rfl, kp, EX.nM⟩, _, rfl, iteF ?_⟩
        refine ⟨_, rfl, .ref a, .ref CD, .ref CD, true, rfl, .own CD, .inl ⟨a, CD, _, rfl, kp, G.kit_self⟩, _, rfl, iteT ?_⟩
        obtain ⟨g1, g2, g3, g4⟩ := dep_facts
        refine ⟨by show 2 ≤ sizeLine; decide, fun e he => ?_⟩
        refine ⟨e, dDep, rfl, .tup (SqT.of upd_same) (.cons (.str _) (.cons .non .nil)), g1, g2, g3, g4, ?_⟩
        exact k _ (keep_new (fun b u e => (upd_ne (ne_of_none e ha)).trans e) he)
    · refine ⟨_, rfl, rfl, _, rfl, iteTb (decide_eq_true rfl) ?_⟩
      obtain ⟨g1, g2, g3, g4⟩ := ret_facts hlt (by omega)
      refine ⟨_, rfl, by show 2 ≤ sizeLine; decide, fun e he => ?_⟩
      have hqe := (fun h => new_at (p := qa) (o := .tup (nv L)) (u := .tup [.str "returned", .ref qa]) h he) hq
      refine ⟨e, dRet L, rfl, .tup (SqT.of upd_same) (.cons (.str _) (.cons (.tup (SqT.of hqe) (dp_nv L)) .nil)), g1, g2, g3, g4, ?_⟩
      exact k _ (keep_new (Same.refl H') he)
section
variable {P : Program} {w : World} {K : PySem.W.Frag} {mg : Str → Option Value} {base : Heap}
/-! ### _law_free_lot -/
def spFree : Sp := fun vs H Q _ => ∃ (b : Addr) (n sz m : Int) (o : HO), vs = [.ref b, .int sz, .int m] ∧ H b = some o ∧ BoxO n o ∧ n ≤ 900000 ∧ 1 ≤ sz ∧ sz ≤ 16 ∧ 0 ≤ m ∧ m ≤ 9 ∧
  ∀ (p : Addr) (vv : List Nat) (H' : Hp) (o' : HO), Sam b H H' → H' b = some o' → BoxO (n + 1 + 4 * m) o' → H' p = some (.tup (nv vv)) → Indep vv → (∀ v ∈ vv, v < 2 ^ sz.toNat) → (vv.length : Int) ≤ m → Q (.ref p) H'
theorem scFree : FnScope ["_law_box_here", "_law_size", "_law_most", "_law_found", "_law_part"] ["_law_box_here", "_law_size", "_law_most"] (defScope sFree) := ⟨rfl, rfl, rfl, by decide +kernel, rfl, by decide +kernel, by decide +kernel⟩
theorem ok_free {f f1 f2 f3 f4 : Addr} {fd fd1 fd2 fd3 fd4 : FuncData} (A0 : At K mg "_law_free_lot" sFree ["_law_box_here", "_law_size", "_law_most"] f fd) (A1 : At K mg "_law_take" sTake ["_law_box_here", "_law_many"] f1 fd1) (A2 : At K mg "_law_of" sOf ["_law_box_here", "_law_some"] f2 fd2)
    (AL : At K mg "_law_lot" sLot ["_law_box_here", "_law_size", "_law_most"] f3 fd3) (AA : At K mg "_law_all_of" sAllOf ["_law_lot_here"] f4 fd4) (T : Txt K mg) : FnOk P w K mg base CX0 4 f fd ["_law_box_here", "_law_size", "_law_most"] spFree := by
  have GL : FnOk P w K mg base CX0 3 f3 fd3 ["_law_box_here", "_law_size", "_law_most"] spLot := ok_lot AL A1 A2 T
  have GA : FnOk P w K mg base CX0 1 f4 fd4 ["_law_lot_here"] (spAllOfL K) := ok_allOfL AA T
  refine A0.fn.ok scFree (fun vs H Q E h => ?_) (fun cdv A outer s H vs Q E hr h => ?_)
  · obtain ⟨b, n, sz, m, o, rfl, _⟩ := h
    rfl
  · obtain ⟨b, n, sz, m, o, rfl, hb, B, hn, s1, s2, m1, m2, k⟩ := h
    have hr1 : Room 1 _ := hr.mono (by decide)
    refine ⟨_, (pss_cons (ps_set (i := 3) scFree.nd rfl (Or.inl rfl) (pe_lst pa_nil))
      (pss_cons (ps_for PassesOwn.never rfl (pi_tup (pe_call GL hr (by rfl) AL.mg AL.fn.kp AL.bi .nil pass0 (pa_cons (pv 0) (pa_cons (pv 1) (pa_cons (pv 2) pa_nil))))) (pg_name (i := 4) scFree.nd rfl (Or.inl rfl)) (pss_one (ps_if (pt_cmpR op_notIn_seq (pv 4) (pe_call GA hr1 (by rfl) AA.mg AA.fn.kp AA.bi .nil pass0 (pa_cons (pv 3) pa_nil)) (by rfl)) (pss_one (ps_expr (pe_bm PySem.F.plainAttrs_list PySem.F.slot_list_append PySem.F.type_list_append mt_append (pv 3) (pa_cons (pv 4) pa_nil)))) pss_nil)))
      (pss_one (ps_ret (pe_callTy call_tuple_of (by rfl) T.tuple (by decide +kernel) (pa_cons (pv 3) pa_nil)))))), ?_⟩
    refine ⟨Nat.zero_le _, fun l hl => ?_⟩
    have nbl : b ≠ l := ne_of_none hb hl
    refine ⟨_, rfl, _, rfl, _, rfl, b, n, sz, m, o, rfl, (by rw [upd_ne nbl]; exact hb), B, hn, s1, s2, m1, by omega, fun p ns H2 o2 _ sm2 hb2 B2 hp2 hin hlen => ?_⟩
    obtain ⟨vv, evv, lvv, hvv⟩ := nv_of hin
    rw [evv] at hp2
    have hl2 : H2 l = some (.lst []) := sm2 _ _ nbl.symm upd_same
    have npl : p ≠ l := fun z => by
      rw [z, hl2] at hp2
      cases hp2
    refine ⟨p, rfl, ⟨_, SqT.of hp2⟩, ?_⟩
    refine for_tup (K := K) (a := p) (xs := nv vv) (fun i σ H' => ∃ (L : List Nat) (t4 : Option V), σ = [some (.ref b), some (.int sz), some (.int m), some (.ref l), t4] ∧ (∀ c u, c ≠ l → H2 c = some u → H' c = some u) ∧ H' l = some (.lst (nv L)) ∧ Indep L ∧ (∀ x ∈ L, x < 2 ^ sz.toNat) ∧ L.length ≤ i)
      ⟨[], none, rfl, fun _ _ _ e => e, hl2, GF.indep_nil, (fun x hx => by cases hx), Nat.le_refl _⟩ (fun i σ H' _ ⟨_, _, _, s3, _⟩ => SqT.of (s3 _ _ npl hp2)) ?_ ?_
    · rintro i y σ H3 hy ⟨L, t4, rfl, s3, hl3, hI, hlt, hlen'⟩
      obtain ⟨v, ev, rfl, hi⟩ := nv_at hy
      have hL9 : L.length ≤ 9 := by omega
      refine ⟨_, rfl, _, rfl, l, L, rfl, hl3, by omega, fun q E H4 sm4 hq hA lE => ?_⟩
      refine ⟨q, _, rfl, .inl (SqL.of hq), rfl, flat_nv _, _, rfl, ?_⟩
      rw [in_nv]
      have hl4 := sm4 _ _ hl3
      have s4 : ∀ c u, c ≠ l → H2 c = some u → H4 c = some u := fun c u n e => sm4 _ _ (s3 c u n e)
      by_cases hv : v ∈ E
      · refine iteFb ?_ ⟨L, _, rfl, s4, hl4, hI, hlt, by omega⟩
        rw [if_pos rfl, Bool.not_eq_false', List.any_eq_true]
        exact ⟨v, hv, by simp⟩
      · refine iteTb ?_ ?_
        · rw [if_pos rfl, Bool.not_eq_true', List.any_eq_false]
          intro x hx z
          exact hv ((beq_iff_eq.mp z) ▸ hx)
        · refine ⟨_, rfl, .inl ⟨rfl, _, SqL.of hl4⟩, _, rfl, l, _, _, rfl, rfl, hl4, ?_, ?_⟩
          · rw [nv_len]
            exact Nat.lt_of_le_of_lt hL9 (by decide)
          · refine ⟨L ++ [v], _, rfl, fun c u n e => by rw [upd_ne n]; exact s4 c u n e, by rw [upd_same, nv_app]; rfl, (GF.indep_snoc hI).mpr fun z => hv ((hA.iff v).mpr z), fun x hx => ?_, by rw [List.length_append, List.length_singleton]; omega⟩
            rcases List.mem_append.mp hx with hx | hx
            · exact hlt x hx
            · rw [List.mem_singleton.mp hx]
              exact hvv v (List.mem_of_getElem? ev)
    · rintro σ H3 ⟨L, t4, rfl, s3, hl3, hI, hlt, hlen'⟩
      rw [nv_len] at hlen'
      refine ⟨_, rfl, l, _, rfl, .inl ⟨SqL.of hl3, fun t ht => ?_⟩⟩
      refine k t L _ o2 (fun c u n e => ?_) (at_new (s3 _ _ nbl hb2) ht) B2 upd_same hI hlt (by omega)
      have ncl : c ≠ l := ne_of_none e hl
      have e1 := s3 c u ncl (sm2 c u n ((upd_ne ncl).trans e))
      rw [upd_ne (ne_of_none e1 ht)]
      exact e1
/-! ### _law_due -/
def dueD (wd : Nat) (vv : List Nat) : PyData := if (GF.red0 vv).length = vv.length then dRet (comp vv wd) else dDep
def spDue : Sp := fun vs H Q _ => ∃ (wd : Nat) (p : Addr) (vv : List Nat), vs = [.int (wd : Int), .ref p] ∧ 1 ≤ wd ∧ wd ≤ 9 ∧ H p = some (.tup (nv vv)) ∧ vv.length ≤ 10 ∧ (∀ v ∈ vv, v < 2 ^ wd) ∧ ∀ H', Same H H' → Q (.str (dueD wd vv).shown) H'
theorem scDue : FnScope ["_law_size", "_law_plan_here", "_law_found", "_law_at"] ["_law_size", "_law_plan_here"] (defScope sDue) := ⟨rfl, rfl, rfl, by decide +kernel, rfl, by decide +kernel, by decide +kernel⟩
theorem ok_due {f f1 f2 : Addr} {fd fd1 fd2 : FuncData} (A0 : At K mg "_law_due" sDue ["_law_size", "_law_plan_here"] f fd) (AR : At K mg "_law_rank" sRank ["_law_lot_here"] f1 fd1) (AA : At K mg "_law_all_of" sAllOf ["_law_lot_here"] f2 fd2) (T : Txt K mg) :
    G.FnG P w K mg base 3 f fd ["_law_size", "_law_plan_here"] spDue := by
  have GR : FnOk P w K mg base CX0 2 f1 fd1 ["_law_lot_here"] (spRank K) := ok_rank AR AA T
  have GA : FnOk P w K mg base CX0 1 f2 fd2 ["_law_lot_here"] (spAllOf K) := ok_allOf AA T
  refine G.okG A0.fn scDue (fun vs H Q E h => ?_) (fun cdv A outer s H vs Q E hga hr h => ?_)
  · obtain ⟨wd, p, vv, rfl, _⟩ := h
    rfl
  · obtain ⟨wd, p, vv, rfl, w1, w2, hp, hl, hin, k⟩ := h
    have hr1 : Room 1 _ := hr.mono (by decide)
    have hr2 : Room 2 _ := hr.mono (by decide)
    have hgu : (A.deeper (PyProof.Rows.envOfC "_law_due" (defScope sDue) s.heap.objs.size f cdv)).guards = some [] := hga
    refine ⟨_, (pss_cons (ps_if (pt_cmpR op_lt (pe_call GR hr2 (by rfl) AR.mg AR.fn.kp AR.bi .nil pass0 (pa_cons (pv 1) pa_nil)) (pe_callB call_len_seq (by rfl) T.len PySem.boot_len (pa_cons (pv 1) pa_nil)) (nomark _)) (pss_one (ps_ret (pe_callB (G.call_repr_data (k := 2) hgu hr) (by rfl) T.repr (by decide +kernel) (pa_cons (pe_tup (pa_cons pe_str (pa_cons pe_non pa_nil))) pa_nil)))) pss_nil)
      (pss_cons (ps_set (i := 2) scDue.nd rfl (Or.inl rfl) (pv 1))
      (pss_cons (ps_for PassesOwn.never rfl (pi_range1 (by rfl) T.range (pa_cons (pv 0) pa_nil)) (pg_name (i := 3) scDue.nd rfl (Or.inl rfl)) (pss_one (ps_if (pt_cmpR op_notIn_seq (pe_op op_shl pe_int (pv 3)) (pe_call GA hr1 (by rfl) AA.mg AA.fn.kp AA.bi .nil pass0 (pa_cons (pv 2) pa_nil)) (by rfl)) (pss_one (ps_set (i := 2) scDue.nd rfl (Or.inl rfl) (pe_op op_catN (pv 2) (pe_tup (pa_cons (pe_op op_shl pe_int (pv 3)) pa_nil))))) pss_nil)))
      (pss_one (ps_ret (pe_callB (G.call_repr_data (k := 2) hgu hr) (by rfl) T.repr (by decide +kernel) (pa_cons (pe_tup (pa_cons pe_str (pa_cons (pv 2) pa_nil))) pa_nil))))))), ?_⟩
    refine ⟨_, rfl, p, vv, rfl, hp, by omega, fun H1 sm1 => ?_⟩
    refine ⟨_, rfl, p, _, rfl, .inr (SqT.of (sm1 _ _ hp)), _, _, rfl, rfl, _, rfl, ?_⟩
    rw [nv_len]
    have hle := GF.red0_len_le vv
    by_cases c : (GF.red0 vv).length = vv.length
    case neg =>
      refine iteTb (decide_eq_true (by omega)) ?_
      obtain ⟨g1, g2, g3, g4⟩ := dep_facts
      refine ⟨by show 2 ≤ sizeLine; decide, fun e he => ?_⟩
      refine ⟨e, dDep, rfl, .tup (SqT.of upd_same) (.cons (.str _) (.cons .non .nil)), g1, g2, g3, g4, ?_⟩
      refine qv ?_ (k _ (keep_new sm1 he))
      unfold dueD
      rw [if_neg c]
    refine iteFb (decide_eq_false (by omega)) ?_
    have hI : Indep vv := (GF.indep_iff vv).mp c
    have lenC : ∀ i, i ≤ wd → (comp vv i).length ≤ wd := fun i hi => by
      have hc := GF.comp_is hI i
      obtain ⟨ps, e, srt, hm⟩ := hc.app
      have lt : ∀ v ∈ comp vv i, v < 2 ^ wd := fun v hx => by
        rw [e] at hx
        rcases List.mem_append.mp hx with hx | hx
        · exact hin v hx
        · obtain ⟨j, hj, rfl⟩ := hm v hx
          exact Nat.pow_lt_pow_right (by decide) (by omega)
      have h1 := GF.indep_red hc.ind
      have h2 := red_le (GF.red0_red (comp vv i)) fun r hr => GF.ins_lt lt ((GF.red0_span _ r).mp (GF.ins_mem hr))
      omega
    refine ⟨_, rfl, ?_⟩
    refine ⟨_, rfl, _, rfl, by omega, by omega, ?_⟩
    refine for_range (lo := 0) (n := wd) (fun i σ H' => ∃ (r : Addr) (t3 : Option V), σ = [some (.int (wd : Int)), some (.ref p), some (.ref r), t3] ∧ Same H H' ∧ H' r = some (.tup (nv (comp vv i))))
      ⟨p, none, rfl, sm1, sm1 _ _ hp⟩ ?_ ?_
    · rintro i σ H2 hi ⟨r, t3, rfl, sm2, hr2'⟩
      have e2 : (1 : Int) * 2 ^ ((0 : Int) + (i : Int)).toNat = ((2 ^ i : Nat) : Int) := by rw [Int.one_mul, show ((0 : Int) + (i : Int)).toNat = i by omega, pow_cast]
      have lc := lenC i (by omega)
      refine ⟨_, rfl, _, _, rfl, rfl, ⟨by omega, by omega, by decide⟩, ?_⟩
      refine ⟨_, rfl, r, comp vv i, rfl, hr2', by omega, fun q E H3 sm3 hq hA lE => ?_⟩
      refine ⟨q, _, rfl, .inl (SqL.of hq), rfl, flat_nv _, _, rfl, ?_⟩
      have hb : inV (.int ((1 : Int) * 2 ^ ((0 : Int) + (i : Int)).toNat)) (nv E) = decide (2 ^ i ∈ E) := by
        rw [e2, in_nv, Bool.eq_iff_iff, decide_eq_true_iff, List.any_eq_true]
        exact ⟨fun ⟨x, hx, z⟩ => (beq_iff_eq.mp z) ▸ hx, fun h => ⟨_, h, beq_iff_eq.mpr rfl⟩⟩
      have hr3' := sm3 _ _ hr2'
      by_cases hv : 2 ^ i ∈ E
      · refine iteFb (show (!inV (.int ((1 : Int) * 2 ^ ((0 : Int) + (i : Int)).toNat)) (nv E)) = false by rw [hb, decide_eq_true hv]; rfl) ⟨r, _, rfl, sm2.trans sm3, ?_⟩
        rw [GF.comp_yes hI i ((hA.iff _).mp hv)]
        exact hr3'
      · refine iteTb (show (!inV (.int ((1 : Int) * 2 ^ ((0 : Int) + (i : Int)).toNat)) (nv E)) = true by rw [hb, decide_eq_false hv]; rfl) ?_
        refine ⟨_, rfl, _, rfl, _, _, rfl, rfl, ⟨by omega, by omega, by decide⟩, by show 1 ≤ sizeLine; decide, fun t ht => ?_⟩
        have et : (HO.tup [V.int ((1 : Int) * 2 ^ ((0 : Int) + (i : Int)).toNat)]) = .tup (nv [2 ^ i]) := by rw [e2]; rfl
        have hr4 := (fun h => new_at (p := r) (u := .tup [V.int ((1 : Int) * 2 ^ ((0 : Int) + (i : Int)).toNat)]) h ht) hr3'
        refine ⟨r, t, comp vv i, [2 ^ i], rfl, rfl, hr4, (upd_same.trans (congrArg some et)), by rw [List.length_singleton]; omega, fun q H5 sm5 hq => ?_⟩
        refine ⟨q, _, rfl, (sm2.trans sm3).trans ((keep_new (Same.refl H3) ht).trans sm5), ?_⟩
        rw [GF.comp_no hI i fun z => hv ((hA.iff _).mpr z)]
        exact hq
    · rintro σ H2 ⟨r, t3, rfl, sm2, hr2'⟩
      obtain ⟨g1, g2, g3, g4⟩ := ret_facts (L := comp vv wd) (fun v hv => Nat.lt_of_lt_of_le (GF.comp_lt hI hin v hv) (by
        have e : ∀ j : Nat, j < 10 → 2 ^ j ≤ 65536 := by decide
        exact e wd (by omega))) (by have := lenC wd (Nat.le_refl _); omega)
      refine ⟨_, rfl, by show 2 ≤ sizeLine; decide, fun e he => ?_⟩
      have hre := (fun h => new_at (p := r) (o := .tup (nv (comp vv wd))) (u := .tup [.str "returned", .ref r]) h he) hr2'
      refine ⟨e, dRet (comp vv wd), rfl, .tup (SqT.of upd_same) (.cons (.str _) (.cons (.tup (SqT.of hre) (dp_nv _)) .nil)), g1, g2, g3, g4, ?_⟩
      refine qv ?_ (k _ (keep_new sm2 he))
      unfold dueD
      rw [if_pos c]
end
end X1
set_option Elab.async false
set_option maxRecDepth 100000
set_option maxHeartbeats 8000000
namespace X1
open PySem L2
open GF (pc par pc_0 pc_eq par_lt InS Can Red Indep comp Els All Part)
open G (spInit spInit0 ClsFn FunD KxC Kept Flies)
theorem eqv_sameT (ns : List Int) : PyData.eqv (.tuple (ns.map PyData.int)) (.tuple (ns.map PyData.int)) = true := PySem.SeqAt.eqv_refl _ (by
  show PyData.canLayAll0 (ns.map PyData.int) = true
  exact canLay_ints ns)
theorem shaped_tup (ns : List Int) : SeqAt.shaped (.tuple (ns.map PyData.int)) = true := by
  unfold SeqAt.shaped
  show (PyData.canLayAll0 (ns.map PyData.int) && decide (PyData.depthAll (ns.map PyData.int) + 1 ≤ 64)) = true
  rw [canLay_ints, depth_ints]
  rfl
theorem ent_get : ∀ {C : List Nat}, (C.map Nat.log2).Nodup → ∀ x ∈ C, valV (C.map ent) (Sum.inl ((x.log2 + 1 : Nat) : Int) : Key) = some (.int (x : Int))
  | y :: C, p, x, hx => by
    obtain ⟨p1, p2⟩ := List.nodup_cons.mp p
    rcases List.mem_cons.mp hx with rfl | hx
    · rw [List.map_cons]
      exact valV_pos (p := ent x) rfl
    · have e : ¬ (ent y).1 = Sum.inl ((x.log2 + 1 : Nat) : Int) := fun e => by
        have e' : ((y.log2 + 1 : Nat) : Int) = ((x.log2 + 1 : Nat) : Int) := Sum.inl.inj e
        exact p1 (List.mem_map.mpr ⟨x, hx, by omega⟩)
      rw [List.map_cons, valV_neg e]
      exact ent_get p2 x hx
theorem span_swap {C ws : List Nat} {y v : Nat} (s : ∀ x, InS C x ↔ InS ws x) (h : InS C (y ^^^ v)) (x : Nat) : InS (C ++ [y]) x ↔ InS (ws ++ [v]) x := by
  rw [GF.ins_snoc, GF.ins_snoc, ← s, ← s]
  refine or_congr Iff.rfl ⟨fun q => ?_, fun q => ?_⟩
  · have := GF.ins_xor q h
    rw [show x ^^^ y ^^^ (y ^^^ v) = x ^^^ v by rw [Nat.xor_assoc, ← Nat.xor_assoc y y v, Nat.xor_self, Nat.zero_xor]] at this
    exact this
  · have := GF.ins_xor q h
    rw [show x ^^^ v ^^^ (y ^^^ v) = x ^^^ y by rw [Nat.xor_comm y v, Nat.xor_assoc, ← Nat.xor_assoc v v y, Nat.xor_self, Nat.zero_xor]] at this
    exact this
theorem span_old {C ws : List Nat} {v : Nat} (s : ∀ x, InS C x ↔ InS ws x) (h : InS C v) (x : Nat) : InS C x ↔ InS (ws ++ [v]) x := by
  rw [GF.ins_snoc, ← s, ← s]
  refine ⟨.inl, fun q => q.elim id fun q => ?_⟩
  have := GF.ins_xor q h
  rw [Nat.xor_assoc, Nat.xor_self, Nat.xor_zero] at this
  exact this
theorem bits_0 : Builtin.Int.intBits ((0 : Nat) : Int) = 0 := by rfl
section
variable {P : Program} {w : World} {K : PySem.W.Frag} {mg : Str → Option Value} {base : Heap}
/-! ### _law_own_rank -/
def spOwn : Sp := fun vs H Q _ => ∃ (p : Addr) (vv : List Nat), vs = [.ref p] ∧ H p = some (.tup (nv vv)) ∧ vv.length ≤ 1000 ∧ ∀ H', Same H H' → Q (.int ((GF.red0 vv).length : Nat)) H'
theorem scOwn : FnScope ["_law_lot_here", "_law_rows", "_law_part"] ["_law_lot_here"] (defScope sOwn) := ⟨rfl, rfl, rfl, by decide +kernel, rfl, by decide +kernel, by decide +kernel⟩
theorem ok_own {f : Addr} {fd : FuncData} (A0 : At K mg "_law_own_rank" sOwn ["_law_lot_here"] f fd) (T : Txt K mg) : FnOk P w K mg base CX0 1 f fd ["_law_lot_here"] spOwn := by
  refine A0.fn.ok scOwn (fun vs H Q E h => ?_) (fun cdv A outer s H vs Q E hr h => ?_)
  · obtain ⟨p, vv, rfl, _⟩ := h
    rfl
  · obtain ⟨p, vv, rfl, hp, hl, k⟩ := h
    refine ⟨_, (pss_cons (ps_set (i := 1) scOwn.nd rfl (Or.inl rfl) pe_dnewK)
      (pss_cons (ps_for PassesOwn.never rfl (pi_tup (pv 0)) (pg_name (i := 2) scOwn.nd rfl (Or.inl rfl)) (pss_cons (ps_while PassesOwn.never (pt_cmp (pc_din (hu_of hr) (pe_bits (pv 2)) (pv 1)) (by rfl)) (pss_one (ps_set (i := 2) scOwn.nd rfl (Or.inl rfl) (pe_op op_xor (pv 2) (pe_dget (hu_of hr) (pv 1) (pe_bits (pv 2)) (fun _ _ => rfl))))))
      (pss_one (ps_if (pt_cmpR op_gt (pv 2) pe_int (nomark _)) (pss_one (ps_dput (hu_of hr) (pv 1) (pe_bits (pv 2)) (pv 2) (by rfl))) pss_nil))))
      (pss_one (ps_ret (pe_callB call_lenD (by rfl) T.len PySem.boot_len (pa_cons (pv 1) pa_nil)))))), ?_⟩
    intro d hd
    have npd : p ≠ d := ne_of_none hp hd
    refine ⟨_, rfl, p, rfl, ⟨_, SqT.of (new_at hp hd)⟩, ?_⟩
    refine for_tup (K := K) (a := p) (xs := nv vv) (fun i σ H' => ∃ (C : List Nat) (t2 : Option V), σ = [some (.ref p), some (.ref d), t2] ∧ Same H H' ∧ H' d = some (.dK (C.map ent)) ∧ (C.map Nat.log2).Nodup ∧ (∀ c ∈ C, c ≠ 0) ∧ (∀ x, InS C x ↔ InS (vv.take i) x) ∧ C.length ≤ i)
      ⟨[], none, rfl, keep_new (Same.refl H) hd, upd_same, List.nodup_nil, (fun c hc => by cases hc), (fun x => Iff.rfl), Nat.le_refl _⟩ (fun i σ H' _ ⟨_, _, _, sm, _⟩ => SqT.of (sm _ _ hp)) ?_ ?_
    · rintro i y σ H1 hy ⟨C, t2, rfl, sm, hd1, nd, nz, hs, hlen⟩
      obtain ⟨v, ev, rfl, hi⟩ := nv_at hy
      have ea : vv.take (i + 1) = vv.take i ++ [v] := by
        rw [List.take_add_one, ev]
        rfl
      refine while_by (fun σ H' => ∃ y : Nat, σ = [some (.ref p), some (.ref d), some (.int (y : Int))] ∧ H' = H1 ∧ InS C (y ^^^ v)) (fun σ _ => match σ with | [_, _, some (.int m)] => m.toNat | _ => 0) ⟨v, rfl, rfl, by rw [Nat.xor_self]; exact GF.ins_0 C⟩ ?_ ?_
      · rintro σ H' ⟨y, rfl, rfl, hin⟩
        refine ⟨_, rfl, _, rfl, _, rfl, d, _, rfl, DGet.k (k := Sum.inl ((Builtin.Int.intBits (y : Int) : Nat) : Int)) hd1, _, rfl, ?_⟩
        by_cases y0 : y = 0
        · subst y0
          have hn : valV (C.map ent) (Sum.inl ((Builtin.Int.intBits ((0 : Nat) : Int) : Nat) : Int) : Key) = none := by
            cases e : valV (C.map ent) (Sum.inl ((Builtin.Int.intBits ((0 : Nat) : Int) : Nat) : Int) : Key) with
            | none => rfl
            | some z =>
              obtain ⟨x, _, ex⟩ := ent_some e
              rw [bits_0] at ex
              omega
          refine iteFb (by rw [hn]; rfl) ?_
          refine ⟨_, rfl, _, _, rfl, rfl, _, rfl, iteFb (decide_eq_false (by omega)) ?_⟩
          rw [Nat.zero_xor] at hin
          refine ⟨C, _, rfl, sm, hd1, nd, nz, fun x => ?_, Nat.le_succ_of_le hlen⟩
          rw [ea]
          exact span_old hs hin x
        · have hb := bits_of y0
          rw [hb]
          cases e : valV (C.map ent) (Sum.inl ((y.log2 + 1 : Nat) : Int) : Key) with
          | some z =>
            obtain ⟨c, hc, ec⟩ := ent_some e
            have ec : c.log2 = y.log2 := by omega
            have eg := ent_get nd c hc
            rw [ec] at eg
            have hc0 := nz c hc
            refine iteTb rfl ?_
            refine ⟨_, rfl, _, rfl, _, rfl, _, rfl, d, .int (c : Int), rfl, .inl ⟨C.map ent, Sum.inl ((Builtin.Int.intBits (y : Int) : Nat) : Int), .inl hd1, rfl, by rw [hb]; exact eg.symm⟩, _, _, rfl, rfl, ?_⟩
            have ex : Builtin.bitXor (y : Int) (c : Int) = ((y ^^^ c : Nat) : Int) := Bits.bitXor_pp (Int.natCast_nonneg y) (Int.natCast_nonneg c)
            have hlt := GF.log_off y0 ec hc0
            refine ⟨⟨y ^^^ c, ?_, rfl, ?_⟩, ?_⟩
            · show [some (V.ref p), some (V.ref d), some (V.int (Builtin.bitXor (y : Int) (c : Int)))] = _
              rw [ex]
            · have := GF.ins_xor hin (GF.ins_mem hc)
              rw [show y ^^^ v ^^^ c = y ^^^ c ^^^ v by rw [Nat.xor_assoc, Nat.xor_comm v c, ← Nat.xor_assoc]] at this
              exact this
            · show (Builtin.bitXor (y : Int) (c : Int)).toNat < ((y : Int)).toNat
              rw [ex]
              omega
          | none =>
            have hnone := ent_none e
            refine iteFb rfl ?_
            refine ⟨_, rfl, _, _, rfl, rfl, _, rfl, iteTb (decide_eq_true (by omega)) ?_⟩
            refine ⟨_, rfl, _, rfl, _, rfl, _, rfl, d, _, rfl, .inl ⟨C.map ent, Sum.inl ((Builtin.Int.intBits (y : Int) : Nat) : Int), hd1, rfl, ?_, rfl⟩, ?_⟩
            · rw [List.length_map]
              exact Nat.lt_of_le_of_lt (Nat.le_trans hlen (Nat.le_trans (Nat.le_of_lt hi) hl)) (by decide)
            rw [hb]
            refine ⟨C ++ [y], _, rfl, fun c u ec => ?_, ?_, ?_, fun c hc => ?_, fun x => ?_, ?_⟩
            · rw [upd_ne (ne_of_none ec hd)]
              exact sm c u ec
            · rw [upd_same, putK_new _ e, List.map_append]
              rfl
            · rw [List.map_append]
              refine List.nodup_append.mpr ⟨nd, List.pairwise_singleton _ _, fun a ha b hb' z => ?_⟩
              obtain ⟨c, hc, rfl⟩ := List.mem_map.mp ha
              have hb2 : b = y.log2 := List.mem_singleton.mp hb'
              exact hnone c hc (by rw [z, hb2])
            · rcases List.mem_append.mp hc with hc | hc
              · exact nz c hc
              · rw [List.mem_singleton.mp hc]
                exact y0
            · rw [ea]
              exact span_swap hs hin x
            · rw [List.length_append]
              exact Nat.succ_le_succ hlen
      · rintro σ H' Q1 Q2 hq ⟨v, e, i, e1, x, e2, a, o, e3, g, z, e4, q⟩
        exact ⟨v, e, i, e1, x, e2, a, o, e3, g, z, e4, hq _ _ q⟩
    · rintro σ H1 ⟨C, t2, rfl, sm, hd1, nd, nz, hs, hlen⟩
      rw [nv_len, List.take_length] at hs
      refine ⟨_, rfl, d, _, rfl, hd1, ?_⟩
      refine qv ?_ (k H1 sm)
      rw [List.length_map, GF.indep_len (GF.logs_indep nd nz) (GF.red_indep (GF.red0_red vv)) fun x => (hs x).trans (GF.red0_span vv x).symm]
/-! ### _law_wide_right -/
def spWide : Sp := fun vs H Q _ => ∃ (b : Addr) (n : Int) (o : HO), vs = [.ref b] ∧ H b = some o ∧ BoxO n o ∧ n ≤ 100000 ∧ ∀ H', Sam b H H' → Q (.bl true) H'
theorem scWide : FnScope ["_law_box_here", "_law_size", "_law_plan_here", "_law_due_here", "_law_at"] ["_law_box_here"] (defScope sWide) := ⟨rfl, rfl, rfl, by decide +kernel, rfl, by decide +kernel, by decide +kernel⟩
theorem ok_wide {f f1 f2 f3 CD : Addr} {fd fd1 fd2 fd3 : FuncData} (A0 : At K mg "_law_wide_right" sWide ["_law_box_here"] f fd) (AF : At K mg "_law_free_lot" sFree ["_law_box_here", "_law_size", "_law_most"] f1 fd1) (AO : At K mg "_law_own_rank" sOwn ["_law_lot_here"] f2 fd2)
    (AC : At K mg "completed" sComp ["width", "masks"] f3 fd3) (GFr : FnOk P w K mg base CX0 4 f1 fd1 ["_law_box_here", "_law_size", "_law_most"] spFree) (GC : FnOk P w K mg base (L2.CX P w) 6 f3 fd3 ["width", "masks"] (spComp K CD)) (T : Txt K mg) :
    FnOk P w K mg base CX0 7 f fd ["_law_box_here"] spWide := by
  have GO : FnOk P w K mg base CX0 1 f2 fd2 ["_law_lot_here"] spOwn := ok_own AO T
  refine A0.fn.ok scWide (fun vs H Q E h => ?_) (fun cdv A outer s H vs Q E hr h => ?_)
  · obtain ⟨b, n, o, rfl, _⟩ := h
    rfl
  · obtain ⟨b, n, o, rfl, hb, B, hn, k⟩ := h
    have hr1 : Room 1 _ := hr.mono (by decide)
    have hr4 : Room 4 _ := hr.mono (by decide)
    refine ⟨_, (pss_cons (ps_for PassesOwn.never rfl (pi_tup (pe_tup (pa_cons pe_int (pa_cons pe_int (pa_cons pe_int (pa_cons pe_int pa_nil)))))) (pg_name (i := 1) scWide.nd rfl (Or.inl rfl)) (pss_cons (ps_set (i := 2) scWide.nd rfl (Or.inl rfl) (pe_call GFr hr4 (by rfl) AF.mg AF.fn.kp AF.bi .nil pass0 (pa_cons (pv 0) (pa_cons (pv 1) (pa_cons pe_int pa_nil)))))
      (pss_cons (ps_set (i := 3) scWide.nd rfl (Or.inl rfl) (pv 2))
      (pss_cons (ps_for PassesOwn.never rfl (pi_range1 (by rfl) T.range (pa_cons (pv 1) pa_nil)) (pg_name (i := 4) scWide.nd rfl (Or.inl rfl)) (pss_one (ps_if (pt_cmpR op_gt (pe_call GO hr1 (by rfl) AO.mg AO.fn.kp AO.bi .nil pass0 (pa_cons (pe_op op_catN (pv 3) (pe_tup (pa_cons (pe_op op_shl pe_int (pv 4)) pa_nil))) pa_nil)) (pe_call GO hr1 (by rfl) AO.mg AO.fn.kp AO.bi .nil pass0 (pa_cons (pv 3) pa_nil)) (nomark _)) (pss_one (ps_set (i := 3) scWide.nd rfl (Or.inl rfl) (pe_op op_catN (pv 3) (pe_tup (pa_cons (pe_op op_shl pe_int (pv 4)) pa_nil))))) pss_nil)))
      (pss_one (ps_if (pt_cmpR (op_neD hr.units) (pe_call GC hr (by rfl) AC.mg AC.fn.kp AC.bi .nil passL (pa_cons (pv 1) (pa_cons (pv 2) pa_nil))) (pv 3) (nomark _)) (pss_one (ps_ret pe_bl)) pss_nil))))))
      (pss_one (ps_ret pe_bl))), ?_⟩
    have toSam : ∀ {X Y : Hp}, Same X Y → Sam b X Y := fun h c u _ e => h c u e
    refine ⟨by show 4 ≤ sizeLine; decide, fun t ht => ⟨t, rfl, ⟨_, SqT.of upd_same⟩, ?_⟩⟩
    have ntb : t ≠ b := (ne_of_none hb ht).symm
    refine for_tup (K := K) (a := t) (xs := [10, 12, 15, 16].map V.int) (fun i σ H' => ∃ (o1 : HO) (t1 t2 t3 t4 : Option V), σ = [some (.ref b), t1, t2, t3, t4] ∧ Sam b H H' ∧ H' t = some (.tup ([10, 12, 15, 16].map V.int)) ∧ H' b = some o1 ∧ BoxO (n + 100 * (i : Int)) o1)
      ⟨o, none, none, none, none, rfl, (Sam.refl b H).new ht, upd_same, at_new hb ht, by simpa using B⟩ (fun i σ H' _ ⟨_, _, _, _, _, _, _, h, _⟩ => SqT.of h) ?_ ?_
    · rintro i y σ H1 hy ⟨o1, t1, t2, t3, t4, rfl, sm1, ht1, hb1, B1⟩
      obtain ⟨m, em, rfl, hi, _⟩ := at_map hy
      have hm : 10 ≤ m ∧ m ≤ 16 := by
        have hm := List.mem_of_getElem? em
        simp only [List.mem_cons, List.not_mem_nil, or_false] at hm
        omega
      have hi4 : i < 4 := hi
      obtain ⟨wd, hwd⟩ : ∃ wd : Nat, m = (wd : Int) := ⟨m.toNat, by omega⟩
      subst hwd
      have w16 : wd ≤ 16 := by omega
      refine ⟨_, rfl, _, rfl, b, _, _, 5, o1, rfl, hb1, B1, by omega, by omega, by omega, by decide, by decide, fun p vv H2 o2 sm2 hb2 B2 hp2 hI hin hlen => ?_⟩
      rw [Int.toNat_natCast] at hin
      have hv5 : vv.length ≤ 5 := by omega
      have ht2 := sm2 _ _ ntb ht1
      refine ⟨_, rfl, ?_⟩
      refine ⟨_, rfl, _, rfl, by omega, by omega, ?_⟩
      have lenC : ∀ i, i ≤ wd → (comp vv i).length ≤ wd := fun i hi => by
        have hc := GF.comp_is hI i
        obtain ⟨ps, e, srt, hm⟩ := hc.app
        have lt : ∀ v ∈ comp vv i, v < 2 ^ wd := fun v hx => by
          rw [e] at hx
          rcases List.mem_append.mp hx with hx | hx
          · exact hin v hx
          · obtain ⟨j, hj, rfl⟩ := hm v hx
            exact Nat.pow_lt_pow_right (by decide) (by omega)
        have h1 := GF.indep_red hc.ind
        have h2 := red_le (GF.red0_red (comp vv i)) fun r hr => GF.ins_lt lt ((GF.red0_span _ r).mp (GF.ins_mem hr))
        omega
      refine for_range (lo := 0) (n := wd) (fun j σ H' => ∃ (r : Addr) (t4 : Option V), σ = [some (.ref b), some (.int (wd : Int)), some (.ref p), some (.ref r), t4] ∧ Same H2 H' ∧ H' r = some (.tup (nv (comp vv j))))
        ⟨p, t4, rfl, Same.refl H2, hp2⟩ ?_ ?_
      · rintro j σ H3 hj ⟨r, t4', rfl, sm3, hr3⟩
        have e2 : (1 : Int) * 2 ^ ((0 : Int) + (j : Int)).toNat = ((2 ^ j : Nat) : Int) := by rw [Int.one_mul, show ((0 : Int) + (j : Int)).toNat = j by omega, pow_cast]
        have et : (HO.tup [V.int ((1 : Int) * 2 ^ ((0 : Int) + (j : Int)).toNat)]) = .tup (nv [2 ^ j]) := by rw [e2]; rfl
        have lc := lenC j (by omega)
        refine ⟨_, rfl, _, rfl, _, _, rfl, rfl, ⟨by omega, by omega, by decide⟩, by show 1 ≤ sizeLine; decide, fun u hu => ?_⟩
        have hr4' := (fun h => new_at (p := r) (u := .tup [V.int ((1 : Int) * 2 ^ ((0 : Int) + (j : Int)).toNat)]) h hu) hr3
        refine ⟨r, u, comp vv j, [2 ^ j], rfl, rfl, hr4', (upd_same.trans (congrArg some et)), by rw [List.length_singleton]; omega, fun q H5 sm5 hq => ?_⟩
        have s35 : Same H3 H5 := (keep_new (Same.refl H3) hu).trans sm5
        refine ⟨q, _, rfl, hq, by rw [List.length_append, List.length_singleton]; omega, fun H6 sm6 => ?_⟩
        refine ⟨_, rfl, r, _, rfl, sm6 _ _ (s35 _ _ hr3), by omega, fun H7 sm7 => ?_⟩
        refine ⟨_, _, rfl, rfl, _, rfl, ?_⟩
        have s37 : Same H3 H7 := (s35.trans sm6).trans sm7
        have hIj := (GF.comp_is hI j).ind
        have l1 := GF.indep_red hIj
        have l2 := GF.red0_len_le (comp vv j ++ [2 ^ j])
        rw [GF.comp_next]
        unfold GF.compS
        by_cases c : (GF.red0 (comp vv j ++ [2 ^ j])).length = (comp vv j ++ [2 ^ j]).length
        · rw [if_pos c]
          refine iteTb (decide_eq_true ?_) ?_
          · rw [c, l1, List.length_append, List.length_singleton]
            omega
          · refine ⟨_, rfl, _, rfl, _, _, rfl, rfl, ⟨by omega, by omega, by decide⟩, by show 1 ≤ sizeLine; decide, fun u2 hu2 => ?_⟩
            have hr8 := (fun h => new_at (p := r) (u := .tup [V.int ((1 : Int) * 2 ^ ((0 : Int) + (j : Int)).toNat)]) h hu2) (s37 _ _ hr3)
            refine ⟨r, u2, comp vv j, [2 ^ j], rfl, rfl, hr8, (upd_same.trans (congrArg some et)), by rw [List.length_singleton]; omega, fun q H9 sm9 hq9 => ?_⟩
            exact ⟨q, _, rfl, (sm3.trans s37).trans ((keep_new (Same.refl H7) hu2).trans sm9), hq9⟩
        · rw [if_neg c]
          refine iteFb (decide_eq_false ?_) ⟨r, _, rfl, sm3.trans s37, s37 _ _ hr3⟩
          rw [List.length_append, List.length_singleton] at c l2
          omega
      · rintro σ H3 ⟨r, t4', rfl, sm3, hr3⟩
        refine ⟨_, rfl, _, rfl, wd, p, vv, rfl, by omega, w16, sm3 _ _ hp2, by omega, hin, fun _ q H4 sm4 hq => ?_, fun z => absurd hI z⟩
        have hr4' := sm4 _ _ hr3
        rw [nv_ints] at hq hr4'
        refine ⟨_, rfl, .tuple _, .tuple _, .tup (SqT.of hq) (dpAll_ints _), .tup (SqT.of hr4') (dpAll_ints _), shaped_tup _, shaped_tup _, _, rfl, ?_⟩
        refine iteFb (by rw [eqv_sameT]; rfl) ?_
        exact ⟨o2, _, _, _, _, rfl, (sm1.trans sm2).trans (toSam (sm3.trans sm4)), sm4 _ _ (sm3 _ _ ht2), sm4 _ _ (sm3 _ _ hb2), B2.mono (by omega)⟩
    · rintro σ H1 ⟨o1, t1, t2, t3, t4, rfl, sm1, _⟩
      exact k H1 sm1
end
end X1
set_option Elab.async false
set_option maxRecDepth 100000
set_option maxHeartbeats 8000000
set_option pp.maxSteps 600
namespace X1
open PySem L2
open GF (pc par pc_0 pc_eq par_lt InS Can Red Indep comp Els All Part Orth bk)
open G (spInit spInit0 ClsFn FunD KxC Kept Flies)
open LamX (Tabs TabS TabB CodeO ExtN)
theorem eqv_same (ns : List Int) : PyData.eqv (.list (ns.map PyData.int)) (.list (ns.map PyData.int)) = true := PySem.SeqAt.eqv_refl _ (by
  show PyData.canLayAll0 (ns.map PyData.int) = true
  exact canLay_ints ns)
theorem asc_same {L : List Int} {A : List Nat} (hL : L.Pairwise (· < ·)) (hA : A.Pairwise (· < ·)) (h : ∀ k, k ∈ L ↔ k ∈ A.map fun n : Nat => (n : Int)) : L = A.map fun n : Nat => (n : Int) := by
  have hA' : (A.map fun n : Nat => (n : Int)).Pairwise (· < ·) := List.pairwise_map.mpr (hA.imp fun {a b} h => by omega)
  have nd : ∀ {M : List Int}, M.Pairwise (· < ·) → M.Nodup := fun h => h.imp fun {a b} h z => by omega
  have p : L.Perm (A.map fun n : Nat => (n : Int)) := (List.perm_ext_iff_of_nodup (nd hL) (nd hA')).mpr h
  exact List.Perm.eq_of_pairwise (le := (· ≤ ·)) (fun a b _ _ h1 h2 => Int.le_antisymm h1 h2) (hL.imp fun {a b} h => Int.le_of_lt h) (hA'.imp fun {a b} h => Int.le_of_lt h) p
def tSortSet (K : PySem.W.Frag) (i : Nat) : TE := fun σ H Q => ∃ v, σ[i]? = some (some v) ∧ ∃ (p : Addr) (ns : List Int), v = .ref p ∧ SqT K H p (ns.map V.int) ∧ ns.length < 64 ∧
  ∀ (q : Addr) (L : List Int) (H' : Hp), Same H H' → H' q = some (.lst (L.map V.int)) → L.Pairwise (· < ·) → (∀ k, k ∈ L ↔ k ∈ ns) → Q (.ref q) H'
theorem pe_sortSet {X : Cx} {i : Nat} {x : Str} {p0 p1 p2 q2 pos : Pos} (he : PE X (.Name x p0) (tVar i)) (hg : Gl X "sorted") (hm : X.mg "sorted" = none) (hg2 : Gl X "set") (hm2 : X.mg "set" = none) (hc : X.calm = true) :
    PE X (.Call (.Name "sorted" p1) [.Call (.Name "set" p2) [.Name x p0] [] q2] [] pos) (tSortSet X.K i) :=
  ⟨fun pins s σ H Q I h => (pe_callB (cr_sortedSet hc) hg hm (by decide +kernel) (pa_cons (pe_callTy (cr_setT hc) hg2 hm2 (by decide +kernel) (pa_cons he pa_nil)) pa_nil)).run pins s σ H Q I (by
    obtain ⟨v, e1, p, ns, rfl, hs, hl, k⟩ := h
    refine ⟨_, e1, p, ns, rfl, hs, by omega, fun a n ha hn => ⟨a, _, n, rfl, upd_same, by omega, fun L q h1 h2 h3 hq => ?_⟩⟩
    exact k q L _ (keep_new (keep_new (Same.refl H) ha) hq) upd_same h1 (fun k => by rw [h2, decide_eq_true_iff]))⟩
/-! ### cuts of tuples -/
theorem nv_take (l : List Nat) (k : Nat) : (nv l).take k = nv (l.take k) := by unfold nv; rw [List.map_take]
theorem nv_drop (l : List Nat) (k : Nat) : (nv l).drop k = nv (l.drop k) := by unfold nv; rw [List.map_drop]
theorem cut_to (l : List Nat) (k : Nat) : cutV (nv l) none (some (k : Int)) = nv (l.take k) := by
  unfold cutV
  rw [HT.sIx_none, HT.sIx_nat, nv_len, List.drop_zero, Nat.sub_zero, nv_take]
  by_cases h : k ≤ l.length
  · rw [show min k l.length = k by omega]
  · rw [show min k l.length = l.length by omega, List.take_length, List.take_of_length_le (by omega)]
theorem cut_from (l : List Nat) (k : Nat) : cutV (nv l) (some (k : Int)) none = nv (l.drop k) := by
  unfold cutV
  rw [HT.sIx_none, HT.sIx_nat, nv_len, nv_drop, nv_take]
  by_cases h : k ≤ l.length
  · rw [show min k l.length = k by omega, List.take_of_length_le (by rw [List.length_drop]; exact Nat.le_refl _)]
  · rw [show min k l.length = l.length by omega, List.drop_of_length_le (Nat.le_refl _), List.drop_of_length_le (by omega), List.take_nil]
theorem blkOk_any {N : List Str} {sc sc0 scope : Scope} {own : List (Str × Nat)} (h : blkC N sc0 scope own = true) (hf : scope.names.all (fun y => decide (y.2 ≠ .free)) = true) : BlkOk N sc scope own := by
  have b := blkOk_by h
  exact ⟨b.kind, b.uniq, b.ix, fun y hy e => absurd e (of_decide_eq_true (List.all_eq_true.mp hf y hy)), b.own⟩
section
variable {X : Cx}
def rSlN (K : PySem.W.Frag) : V → Option Int → Option Int → Hp → VK → Prop := fun x lo hi H Q => ∃ (a : Addr) (xs : List Nat) (k : Nat), x = .ref a ∧ lo = none ∧ hi = some (k : Int) ∧ H a = some (.tup (nv xs)) ∧ ∀ (r : Addr) (H' : Hp), Same H H' → H' r = some (.tup (nv (xs.take k))) → Q (.ref r) H'
theorem sl_N : SlR X (rSlN X.K) := fun pins s σ H x v vl vu lo hi sl Q I rx hs pl pu h => sl_tupA pins s σ H x v vl vu lo hi sl Q I rx hs pl pu (by
  obtain ⟨a, xs, k, rfl, rfl, rfl, ha, q⟩ := h
  refine ⟨a, nv xs, rfl, SqT.of ha, fun ⟨_, e⟩ => ?_, fun _ p hp => ?_⟩
  · rw [HT.sIx_nat, nv_len] at e
    exact q a H (Same.refl H) (by rw [List.take_of_length_le (by omega)]; exact ha)
  · exact q p _ (keep_new (Same.refl H) hp) (by rw [upd_same, cut_to]))
/-- t[k:] -/
def rSlD (K : PySem.W.Frag) : V → Option Int → Option Int → Hp → VK → Prop := fun x lo hi H Q => ∃ (a : Addr) (xs : List Nat) (k : Nat), x = .ref a ∧ lo = some (k : Int) ∧ hi = none ∧ H a = some (.tup (nv xs)) ∧ ∀ (r : Addr) (H' : Hp), Same H H' → H' r = some (.tup (nv (xs.drop k))) → Q (.ref r) H'
theorem sl_D : SlR X (rSlD X.K) := fun pins s σ H x v vl vu lo hi sl Q I rx hs pl pu h => sl_tupA pins s σ H x v vl vu lo hi sl Q I rx hs pl pu (by
  obtain ⟨a, xs, k, rfl, rfl, rfl, ha, q⟩ := h
  refine ⟨a, nv xs, rfl, SqT.of ha, fun ⟨e, _⟩ => ?_, fun _ p hp => ?_⟩
  · rw [HT.sIx_nat, nv_len] at e
    refine q a H (Same.refl H) ?_
    have : xs.drop k = xs := by
      by_cases z : k = 0
      · rw [z, List.drop_zero]
      · have : xs = [] := List.length_eq_zero_iff.mp (by omega)
        rw [this, List.drop_nil]
    rw [this]
    exact ha
  · exact q p _ (keep_new (Same.refl H) hp) (by rw [upd_same, cut_from]))
/-- t[-16:], of at most 16 -/
def rSlM (K : PySem.W.Frag) : V → Option Int → Option Int → Hp → VK → Prop := fun x lo hi H Q => ∃ (a : Addr) (xs : List Nat), x = .ref a ∧ lo = some (-16) ∧ hi = none ∧ H a = some (.tup (nv xs)) ∧ xs.length ≤ 16 ∧ Q (.ref a) H
theorem sl_M : SlR X (rSlM X.K) := fun pins s σ H x v vl vu lo hi sl Q I rx hs pl pu h => sl_tupA pins s σ H x v vl vu lo hi sl Q I rx hs pl pu (by
  obtain ⟨a, xs, rfl, rfl, rfl, ha, hl, q⟩ := h
  refine ⟨a, nv xs, rfl, SqT.of ha, fun _ => q, fun n => absurd ?_ n⟩
  refine ⟨?_, HT.sIx_none _ _⟩
  unfold HT.sIx
  rw [nv_len]
  show (if (-16 : Int) < 0 then ((-16 : Int) + (xs.length : Int)).toNat else min (-16 : Int).toNat xs.length) = 0
  rw [if_pos (by decide)]
  omega)
end
theorem rg_nv (n : Nat) : rgV 0 (n : Int) = nv (List.range n) := by
  unfold rgV nv
  rw [show ((n : Int) - 0).toNat = n by omega]
  refine List.map_congr_left fun i _ => ?_
  rw [Int.zero_add]
theorem sum_2 (f g : Nat → Int) (h : ∀ i, g i = 2 * f i) : ∀ l : List Nat, (l.map g).sum = 2 * (l.map f).sum
  | [] => rfl
  | i :: l => by
    rw [List.map_cons, List.map_cons, List.sum_cons, List.sum_cons, sum_2 f g h l, h]
    omega
theorem bank_bk : ∀ (vv : List Nat) (a : Nat), bankOf (vv.map fun n : Nat => (n : Int)) (a : Int) = (bk vv a : Int)
  | [], _ => rfl
  | v :: vv, a => by
    have ih := bank_bk vv a
    unfold bankOf bits at ih ⊢
    rw [List.map_cons, List.length_cons, List.range_succ_eq_map, List.map_cons, List.sum_cons, List.map_map]
    rw [sum_2 (bitOf (vv.map fun n : Nat => (n : Int)) (a : Int)) _ (fun i => ?_), ih]
    · show (par (a &&& v) : Int) * 2 ^ 0 + 2 * (bk vv a : Int) = ((GF.dot a v + 2 * bk vv a : Nat) : Int)
      unfold GF.dot
      rw [Int.pow_zero, Int.mul_one]
      omega
    · show (par (a &&& ((((v : Int) :: vv.map fun n : Nat => (n : Int)).getD (i + 1) 0).toNat)) : Int) * 2 ^ (i + 1) = 2 * ((par (a &&& (((vv.map fun n : Nat => (n : Int)).getD i 0).toNat)) : Int) * 2 ^ i)
      rw [show ((v : Int) :: vv.map fun n : Nat => (n : Int)).getD (i + 1) 0 = (vv.map fun n : Nat => (n : Int)).getD i 0 from rfl, Int.pow_succ]
      rw [← Int.mul_assoc, Int.mul_comm _ 2]
theorem nn_cast (vv : List Nat) : ∀ m ∈ vv.map (fun n : Nat => (n : Int)), 0 ≤ m := fun m hm => by
  obtain ⟨n, _, rfl⟩ := List.mem_map.mp hm
  exact Int.natCast_nonneg n
/-! ### what stays, where tables grow and the box turns -/
def SamN (b : Addr) (H H' : Hp) : Prop := ∀ c o, c ≠ b → (∀ ps, o ≠ .tbl ps) → H c = some o → H' c = some o
theorem SamN.of {b : Addr} {H H' : Hp} (h : Sam b H H') : SamN b H H' := fun c o n _ e => h c o n e
theorem SamN.trans {b : Addr} {H H1 H2 : Hp} (x : SamN b H H1) (y : SamN b H1 H2) : SamN b H H2 := fun c o n t e => y c o n t (x c o n t e)
theorem SamN.ext {b : Addr} {H H' : Hp} (h : ExtN H H') : SamN b H H' := fun c o _ t e => h c o e t
theorem SamN.same {b : Addr} {H H' : Hp} (h : Same H H') : SamN b H H' := fun c o _ _ e => h c o e
theorem tabs_sam {T : List (Addr × Str)} {b : Addr} {H H' : Hp} {xs : List V} (hb : H b = some (.lst xs)) (h : Sam b H H') (t : Tabs T H) : Tabs T H' := fun p hp => by
  obtain ⟨ps, h1, h2, h3⟩ := t p hp
  have n1 : p.1 ≠ b := fun z => by
    rw [z, hb] at h1
    cases h1
  refine ⟨ps, h _ _ n1 h1, h2, fun pos cv hc => ?_⟩
  obtain ⟨c, e1, e2⟩ := h3 pos cv hc
  have n2 : c ≠ b := fun z => by
    rw [z, hb] at e2
    unfold CodeO at e2
    cases e2
  exact ⟨c, e1, h _ _ n2 e2⟩
/-- a tuple, a list, as data it stays -/
theorem nt_tup {xs : List V} (ps : Array Value) : HO.tup xs ≠ .tbl ps := fun z => by cases z
theorem nt_lst {xs : List V} (ps : Array Value) : HO.lst xs ≠ .tbl ps := fun z => by cases z
/-- the name of what _law_right makes by lambda -/
def qLam : Str := (PyProof.Rows.envOfC "_law_right" (defScope sRight) 0 0 .none).qual ++ "<lambda>"
section
variable {P : Program} {w : World} {K : PySem.W.Frag} {mg : Str → Option Value} {base : Heap}
/-- a def by its body, its code object told, its guards told -/
theorem fnG_at {x : Str} {st : Stmt} {f : Addr} {dV kV doc pm cdv ct oc : Value} {an od : Option Addr} {osl : Array (Option Value)} {N ps : List Str} {k : Nat} {sp : Sp}
    (lk : K.lookup f = some ⟨oc, od, .func (PySem.W.fnOf x x (defArgs st) (defBody st) (defScope st) dV kV doc pm an cdv ct), osl⟩) (hcd : PySem.W.codeIn K cdv x = true) (S : FnScope N ps (defScope st)) (len : ∀ vs H Q E, sp vs H Q E → vs.length = ps.length)
    (body : ∀ (A : Around) (outer : List Env) (s : Shared) (H : Hp) (vs : List V) (Q : VK) (E : XK), A.guards = some [] → Room k (A.deeper (PyProof.Rows.envOfC x (defScope st) s.heap.objs.size f cdv)) → sp vs H Q E →
      ∃ t, PSs (cxOf CX0 P w K mg base N x (defScope st) f cdv A outer s H E).nox (defBody st) t ∧ t { nx := fun _ H' => Q .non H', rt := Q } (start N vs) H) :
    G.FnG P w K mg base (k + 1) f (PySem.W.fnOf x x (defArgs st) (defBody st) (defScope st) dV kV doc pm an cdv ct) ps sp :=
  ⟨len, fun A outer s H args us vs Q E hg hr e0 hb r hsp => by
    have h := body A outer s H vs Q E hg
    exact LamX.run_ofS (CX := CX0) (N := N) lk hcd S hr e0 hb r (len _ _ _ _ hsp) fun hr2 => (h hr2 hsp).imp fun t ⟨h1, h2⟩ => ⟨h1.nox, h2⟩⟩
/-- completed(masks, width) by names -/
def byNames : List Value → List Value → List Value
  | [], [m, w] => [w, m]
  | _, _ => []
def byNamesV : List V → List V → List V
  | [], [m, w] => [w, m]
  | _, _ => []
theorem kb_comp {f : Addr} {fd : FuncData} (A0 : At K mg "completed" sComp ["width", "masks"] f fd) : KBinds K fd ["width", "masks"] ["masks", "width"] byNames byNamesV := by
  obtain ⟨oc, od, kV, doc, pm, an, cdv, ct, osl, efd, lk, hcd⟩ := A0.fn.ex
  subst efd
  refine ⟨fun s us ws _ hl => ?_, fun {vs us zs ws} h1 h2 => ?_⟩
  · match us, ws, hl with
    | [], [m, w], _ => exact .of_eq rfl
  · cases h1 with
    | cons _ _ => exact .nil
    | nil =>
      cases h2 with
      | nil => exact .nil
      | cons r1 h2 =>
        cases h2 with
        | nil => exact .nil
        | cons r2 h2 =>
          cases h2 with
          | nil => exact .cons r2 (.cons r1 .nil)
          | cons _ _ => exact .nil
/-! ### _law_right -/
def spRight (PT : Addr) : Sp := fun vs H Q _ => ∃ (b : Addr) (o : HO), vs = [.ref b] ∧ H b = some o ∧ BoxO 0 o ∧ Tabs [(PT, qLam)] H ∧
  ∀ (H' : Hp), SamN b H H' → Tabs [(PT, qLam)] H' → Q (.bl true) H'
theorem scRight : FnScope ["_law_box_here", "_law_turn", "_law_due_here", "_law_told_here", "_law_whole", "_law_places", "_law_found", "_law_rest", "_law_plan_here", "_law_size", "_law_spot", "_law_at", "_law_part"] ["_law_box_here"] (defScope sRight) := ⟨rfl, rfl, rfl, by decide +kernel, rfl, by decide +kernel, by decide +kernel⟩
/-! ### texts that are shown -/
theorem sok_of (s : String) : PyData.strOk (Str.ofString s) = true := by
  unfold PyData.strOk
  rw [Str.ofString_eq_toList, List.all_toArray, List.all_eq_true]
  intro n hn
  obtain ⟨c, _, rfl⟩ := List.mem_map.mp hn
  have hv := c.valid
  refine decide_eq_true ?_
  have hv : c.toNat < 0xd800 ∨ (0xdfff < c.toNat ∧ c.toNat < 0x110000) := hv
  omega
theorem sok_app {a b : Str} (ha : PyData.strOk a = true) (hb : PyData.strOk b = true) : PyData.strOk (a ++ b) = true := by
  have ha : a.cps.all (· < 0x110000) = true := ha
  have hb : b.cps.all (· < 0x110000) = true := hb
  show (a.cps ++ b.cps).all (· < 0x110000) = true
  rw [Array.all_append, ha, hb]
  rfl
theorem sok_join {sep : Str} (h : PyData.strOk sep = true) : ∀ {ts : List Str}, (∀ t ∈ ts, PyData.strOk t = true) → PyData.strOk (Str.join sep ts) = true
  | [], _ => by
    show PyData.strOk Str.empty = true
    decide +kernel
  | [x], q => q x (List.mem_singleton.mpr rfl)
  | x :: y :: r, q => sok_app (sok_app (q x (List.mem_cons_self ..)) h) (sok_join h fun t ht => q t (List.mem_cons_of_mem _ ht))
theorem sok_tuple {ts : List Str} (h : ∀ t ∈ ts, PyData.strOk t = true) : PyData.strOk (tupleText ts) = true := by
  unfold tupleText
  exact sok_app (sok_app (sok_of "(") (sok_join (sok_of ", ") h)) (sok_of _)
theorem sok_ret (L : List Nat) : PyData.strOk (dRet L).shown = true := by
  show PyData.strOk (tupleText [PyData.shown (.str "returned"), tupleText (PyData.shownAll (datL L))]) = true
  refine sok_tuple fun t ht => ?_
  rcases List.mem_cons.mp ht with rfl | ht
  · decide +kernel
  · rw [List.mem_singleton.mp ht]
    refine sok_tuple fun t ht => ?_
    have all : ∀ (M : List Nat) (t : Str), t ∈ PyData.shownAll (datL M) → PyData.strOk t = true := by
      intro M
      induction M with
      | nil => intro t ht; cases ht
      | cons n M ih =>
        intro t ht
        rcases List.mem_cons.mp ht with rfl | ht
        · exact sok_of _
        · exact ih t ht
    exact all L t ht
theorem sok_dep : PyData.strOk dDep.shown = true := by decide +kernel
theorem two_str {x : Str} (h : PyData.strOk x = true) : SeqAt.shaped (.list [.str x, .str x]) = true ∧ PyData.eqv (.list [.str x, .str x]) (.list [.str x, .str x]) = true := by
  have c : PyData.canLay0 (.list [.str x, .str x]) = true := by
    show (PyData.strOk x && (PyData.strOk x && true)) = true
    rw [h]
    rfl
  refine ⟨?_, PySem.SeqAt.eqv_refl _ c⟩
  unfold SeqAt.shaped
  rw [c]
  rfl
/-- part in [1 << at ..] -/
def tIn16 (K : PySem.W.Frag) : TE := tOp (rIn K false) (tVar 12) (tLc (iRng1 (tCons (tC (.int 16)) tNil)) (gName 11) tYes (tOp (rI CPow fun i j => .int (i * 2 ^ j.toNat)) (tC (.int 1)) (tVar 11)) [11])
theorem ok_right {f f1 f2 f3 f4 f5 f6 f7 f8 f9 fa CB CD CW CM e0 e4 c PT : Addr} {fd1 fd2 fd3 fd4 fd5 fd6 fd7 fd8 fd9 fda fde0 fde4 : FuncData} {dV kV doc pm ct oc : Value} {an od : Option Addr} {osl : Array (Option Value)}
    (lkR : K.lookup f = some ⟨oc, od, .func (PySem.W.fnOf "_law_right" "_law_right" (defArgs sRight) (defBody sRight) (defScope sRight) dV kV doc pm an (.ref c) ct), osl⟩) (hcR : PySem.W.codeIn K (.ref c) "_law_right" = true) (TB : TabB base mg c PT)
    (EX : Exc K mg CB CD CW CM e0 e4 fde0 fde4) (A1 : At K mg "_law_take" sTake ["_law_box_here", "_law_many"] f1 fd1) (A2 : At K mg "_law_of" sOf ["_law_box_here", "_law_some"] f2 fd2) (AF : At K mg "_law_free_lot" sFree ["_law_box_here", "_law_size", "_law_most"] f3 fd3)
    (AA : At K mg "_law_all_of" sAllOf ["_law_lot_here"] f4 fd4) (AD : At K mg "_law_due" sDue ["_law_size", "_law_plan_here"] f5 fd5) (AC : At K mg "completed" sComp ["width", "masks"] f6 fd6) (AR : At K mg "_law_rank" sRank ["_law_lot_here"] f7 fd7)
    (AP : At K mg "_law_place" sPlace ["_law_plan_here", "_law_spot"] f8 fd8) (AT : At K mg "_law_told" sTold ["_law_ask"] f9 fd9) (AO : At K mg "_law_odd_ones" sOdd ["_law_number"] fa fda)
    (GFr : FnOk P w K mg base CX0 4 f3 fd3 ["_law_box_here", "_law_size", "_law_most"] spFree) (GC : FnOk P w K mg base (L2.CX P w) 6 f6 fd6 ["width", "masks"] (spComp K CD)) (T : Txt K mg) :
    G.FnG P w K mg base 9 f (PySem.W.fnOf "_law_right" "_law_right" (defArgs sRight) (defBody sRight) (defScope sRight) dV kV doc pm an (.ref c) ct) ["_law_box_here"] (spRight PT) := by
  have G1 : FnOk P w K mg base CX0 1 f1 fd1 ["_law_box_here", "_law_many"] spTake := ok_take A1
  have G2 : FnOk P w K mg base CX0 2 f2 fd2 ["_law_box_here", "_law_some"] spOf := ok_of A2 A1 T
  have GA : FnOk P w K mg base CX0 1 f4 fd4 ["_law_lot_here"] (spAllOfN K) := ok_allOfN AA T
  have GD : G.FnG P w K mg base 3 f5 fd5 ["_law_size", "_law_plan_here"] spDue := ok_due AD AR AA T
  have GR : FnOk P w K mg base CX0 2 f7 fd7 ["_law_lot_here"] (spRank K) := ok_rank AR AA T
  have GP : FnOk P w K mg base CX0 2 f8 fd8 ["_law_plan_here", "_law_spot"] (spPlace K) := ok_place AP AO T
  have hCm := AT.mg
  have hCk := AT.fn.kp
  have hCb := AT.bi
  obtain ⟨oc8, od8, kV8, doc8, pm8, an8, cdv8, ct8, osl8, efd8, lkC, hcC⟩ := AT.fn.ex
  subst efd8
  refine fnG_at lkR hcR scRight (fun vs H Q E h => ?_) (fun A outer s H vs Q E hga hr h => ?_)
  · obtain ⟨b, o, rfl, _⟩ := h
    rfl
  · obtain ⟨b, o, rfl, hb, B, tabs, k⟩ := h
    have hr1 : Room 1 _ := hr.mono (by decide)
    have hr2 : Room 2 _ := hr.mono (by decide)
    have hr3 : Room 3 _ := hr.mono (by decide)
    have hr4 : Room 4 _ := hr.mono (by decide)
    have hr6 : Room 6 _ := hr.mono (by decide)
    have hr8 : Room 8 _ := hr
    have hgu : (A.deeper (PyProof.Rows.envOfC "_law_right" (defScope sRight) s.heap.objs.size f (.ref c))).guards = some [] := hga
    refine ⟨_, (pss_cons (ps_for PassesOwn.never rfl (pi_range1 (by rfl) T.range (pa_cons pe_int pa_nil)) (pg_name (i := 1) scRight.nd rfl (Or.inl rfl)) (pss_cons (ps_set (i := 9) scRight.nd rfl (Or.inr rfl) (pe_op op_add pe_int (pe_call G1 hr1 (by rfl) A1.mg A1.fn.kp A1.bi .nil pass0 (pa_cons (pv 0) (pa_cons pe_int pa_nil)))))
      (pss_cons (ps_set (i := 8) scRight.nd rfl (Or.inr rfl) (pe_call GFr hr4 (by rfl) AF.mg AF.fn.kp AF.bi .nil pass0 (pa_cons (pv 0) (pa_cons (pv 9) (pa_cons pe_int pa_nil)))))
      (pss_cons (ps_if (pt_cmpR op_eq (pe_call G1 hr1 (by rfl) A1.mg A1.fn.kp A1.bi .nil pass0 (pa_cons (pv 0) (pa_cons pe_int pa_nil))) pe_int (nomark _)) (pss_one (ps_set (i := 8) scRight.nd rfl (Or.inr rfl) (pe_slice sl_M (pe_op op_catN (pv 8) (pe_tup (pa_cons (pe_call G2 hr2 (by rfl) A2.mg A2.fn.kp A2.bi .nil pass0 (pa_cons (pv 0) (pa_cons (pe_call GA hr1 (by rfl) AA.mg AA.fn.kp AA.bi .nil pass0 (pa_cons (pv 8) pa_nil)) pa_nil))) pa_nil))) (po_some (pe_un un_neg pe_int)) po_none))) pss_nil)
      (pss_cons (ps_set (i := 2) scRight.nd rfl (Or.inl rfl) (G.pe_callG GD hgu hr3 (by rfl) AD.mg AD.fn.kp AD.bi .nil (pa_cons (pv 9) (pa_cons (pv 8) pa_nil))))
      (pss_cons (ps_set (i := 3) scRight.nd rfl (Or.inl rfl) (pe_lst (pa_cons (LamX.pe_lamcall (k := 6) (T := [(PT, qLam)]) (TT := TTold CD) (t := fun E => tCall (spComp K CD) [] E (tCons (tVar 9) (tCons (tVar 8) tNil))) (by rfl) hCm hCk lkC hcC hCb scTold rfl (Or.inl rfl) (told_gives EX T (hr.mono (by decide)) hgu) TB rfl (List.mem_singleton.mpr rfl) (fun p hp _ => by rw [List.mem_singleton.mp hp]; rfl) hr (LamX.lamS_by (by show LamX.lamSB (defScope sRight) _ = true; decide +kernel)) rfl (fun _ _ _ _ _ => rfl) (fun A outer s H E f c' hr' => by exact pe_call GC hr' (by rfl) AC.mg AC.fn.kp AC.bi .nil (passes_call (takes_of rfl rfl rfl rfl) fun _ _ _ _ h => h) (pa_cons (pv 9) (pa_cons (pv 8) pa_nil)))) pa_nil)))
      (pss_cons (ps_expr (pe_bm PySem.F.plainAttrs_list PySem.F.slot_list_append PySem.F.type_list_append mt_append (pv 3) (pa_cons (LamX.pe_lamcall (k := 6) (T := [(PT, qLam)]) (TT := TTold CD) (t := fun E => tCallK (spComp K CD) byNamesV E tNil (tCons (tVar 8) (tCons (tVar 9) tNil))) (by rfl) hCm hCk lkC hcC hCb scTold rfl (Or.inl rfl) (told_gives EX T (hr.mono (by decide)) hgu) TB rfl (List.mem_singleton.mpr rfl) (fun p hp _ => by rw [List.mem_singleton.mp hp]; rfl) hr (LamX.lamS_by (by show LamX.lamSB (defScope sRight) _ = true; decide +kernel)) rfl (fun _ _ _ _ _ => rfl) (fun A outer s H E f c' hr' => by exact G.pe_callK0 GC hr' (by rfl) AC.mg AC.fn.kp (kb_comp AC) (passes_call (takes_of rfl rfl rfl rfl) fun _ _ _ _ h => h) (pk_cons (pv 8) (pk_cons (pv 9) pk_nil)))) pa_nil)))
      (pss_cons (ps_if (pt_cmpR (op_neD hr.units) (pv 3) (pe_lst (pa_cons (pv 2) (pa_cons (pv 2) pa_nil))) (nomark _)) (pss_one (ps_ret pe_bl)) pss_nil)
      (pss_one (ps_if (pt_cmpR op_ne (pv 2) (pe_callB (G.call_repr_data (k := 8) hgu hr8) (by rfl) T.repr (by decide +kernel) (pa_cons (pe_tup (pa_cons pe_str (pa_cons pe_non pa_nil))) pa_nil)) (nomark _)) (pss_cons (ps_set (i := 4) scRight.nd rfl (Or.inr rfl) (pe_call GC hr6 (by rfl) AC.mg AC.fn.kp AC.bi .nil passL (pa_cons (pv 9) (pa_cons (pv 8) pa_nil))))
      (pss_cons (ps_setLc (i := 5) (own := [("_law_spot", 10)]) (g := gName 10) (tt := tYes) rfl scRight.nd rfl rfl (sw_true rfl rfl rfl (by decide +kernel)) (pi_range1 (by rfl) T.range (pa_cons (pe_op op_shl pe_int (pv 9)) pa_nil)) (blkOk_by (N := ["_law_box_here", "_law_turn", "_law_due_here", "_law_told_here", "_law_whole", "_law_places", "_law_found", "_law_rest", "_law_plan_here", "_law_size", "_law_spot", "_law_at", "_law_part"]) (sc := defScope sRight) (by decide +kernel)) (fun _ _ _ _ _ => pg_name (i := 10) scRight.nd rfl (Or.inl rfl)) (fun _ _ _ _ _ => pts_nil) (fun _ _ _ _ _ => (pe_call GP hr2 (by rfl) AP.mg AP.fn.kp AP.bi .nil pass0 (pa_cons (pv 4) (pa_cons (pv 10) pa_nil)))))
      (pss_one (ps_if (PW.pt (pw_or (pt_cmpR op_ne (pe_callB call_len_seq (by rfl) T.len PySem.boot_len (pa_cons (pv 4) pa_nil)) (pv 9) (nomark _)) (pw_or1 (pt_cmpR (op_neD hr.units) (pe_callB cr_sortedI (by rfl) T.sorted (by decide +kernel) (pa_cons (pv 5) pa_nil)) (pe_listRg rfl (by rfl) T.list (prg_1 (by rfl) T.range (pe_op op_shl pe_int (pv 9)))) (nomark _))))) (pss_one (ps_ret pe_bl)) pss_nil)))) pss_nil))))))))))
      (pss_cons (ps_for PassesOwn.never rfl (pi_range1 (by rfl) T.range (pa_cons pe_int pa_nil)) (pg_name (i := 1) scRight.nd rfl (Or.inl rfl)) (pss_cons (ps_set (i := 8) scRight.nd rfl (Or.inr rfl) (pe_call GFr hr4 (by rfl) AF.mg AF.fn.kp AF.bi .nil pass0 (pa_cons (pv 0) (pa_cons pe_int (pa_cons pe_int pa_nil)))))
      (pss_cons (ps_set (i := 6) scRight.nd rfl (Or.inl rfl) (pe_call GC hr6 (by rfl) AC.mg AC.fn.kp AC.bi .nil passL (pa_cons pe_int (pa_cons (pv 8) pa_nil))))
      (pss_cons (ps_if (PW.pt (pw_or (pt_cmpR (op_neD hr.units) (pe_slice sl_N (pv 6) po_none (po_some (pe_callB call_len_seq (by rfl) T.len PySem.boot_len (pa_cons (pv 8) pa_nil)))) (pv 8) (nomark _)) (pw_or (pt_cmpR op_ne (pe_callB call_len_seq (by rfl) T.len PySem.boot_len (pa_cons (pv 6) pa_nil)) pe_int (nomark _)) (pw_or1 (pt_cmpR op_ne (pe_call GR hr2 (by rfl) AR.mg AR.fn.kp AR.bi .nil pass0 (pa_cons (pe_slice sl_N (pv 6) po_none (po_some pe_int)) pa_nil)) pe_int (nomark _)))))) (pss_one (ps_ret pe_bl)) pss_nil)
      (pss_cons (ps_set (i := 7) scRight.nd rfl (Or.inl rfl) (pe_slice sl_D (pv 6) (po_some (pe_callB call_len_seq (by rfl) T.len PySem.boot_len (pa_cons (pv 8) pa_nil))) po_none))
      (pss_one (ps_if (PW.pt (pw_or (pt_cmpR (op_neD hr.units) (pe_callTy call_list_of (by rfl) T.list (by decide +kernel) (pa_cons (pv 7) pa_nil)) (pe_sortSet (pv 7) (by rfl) T.sorted (by rfl) T.set rfl) (nomark _)) (pw_or1 (pt_not (pt_val (pe_callB (cr_all rfl) (by rfl) T.all (by decide +kernel) (pa_cons (pe_lc (own := [("_law_part", 12)]) (g := gName 12) (tt := tYes) (te := tIn16 K) rfl scRight.nd (pi_tup (pv 7)) (blkOk_by (N := ["_law_box_here", "_law_turn", "_law_due_here", "_law_told_here", "_law_whole", "_law_places", "_law_found", "_law_rest", "_law_plan_here", "_law_size", "_law_spot", "_law_at", "_law_part"]) (sc := defScope sRight) (by decide +kernel)) (fun _ _ _ _ _ => pg_name (i := 12) scRight.nd rfl (Or.inl rfl)) (fun _ _ _ _ _ => pts_nil) (fun _ _ _ _ _ => by exact (pe_cmpR op_in_seq (pv 12) (pe_lc (own := [("_law_at", 11)]) (g := gName 11) (tt := tYes) rfl scRight.nd (pi_range1 (by rfl) T.range (pa_cons pe_int pa_nil)) (blkOk_any (N := ["_law_box_here", "_law_turn", "_law_due_here", "_law_told_here", "_law_whole", "_law_places", "_law_found", "_law_rest", "_law_plan_here", "_law_size", "_law_spot", "_law_at", "_law_part"]) (sc0 := defScope sRight) (by decide +kernel) (by decide +kernel)) (fun _ _ _ _ _ => pg_name (i := 11) scRight.nd rfl (Or.inl rfl)) (fun _ _ _ _ _ => pts_nil) (fun _ _ _ _ _ => (pe_op op_shl pe_int (pv 11)))) (by rfl)))) pa_nil))))))) (pss_one (ps_ret pe_bl)) pss_nil)))))))
      (pss_one (ps_ret pe_bl)))), ?_⟩
    have big : ∀ {x : Int}, x ≤ 70000 → x < 2 ^ 1000 := fun h => Int.lt_of_le_of_lt h (by decide +kernel)
    have toSam : ∀ {X Y : Hp}, Same X Y → Sam b X Y := fun h c u _ e => h c u e
    refine ⟨_, rfl, by decide, by decide, for_range (lo := 0) (n := 20) (fun i σ H' => ∃ (o1 : HO) (t1 t2 t3 t4 t5 t6 t7 t8 t9 ta tb tc : Option V), σ = [some (.ref b), t1, t2, t3, t4, t5, t6, t7, t8, t9, ta, tb, tc] ∧ SamN b H H' ∧ H' b = some o1 ∧ BoxO (100 * (i : Int)) o1 ∧ Tabs [(PT, qLam)] H')
      ⟨o, none, none, none, none, none, none, none, none, none, none, none, none, rfl, SamN.of (Sam.refl b H), hb, by simpa using B, tabs⟩ ?_ ?_⟩
    · rintro i σ H1 hi ⟨o1, t1, t2, t3, t4, t5, t6, t7, t8, t9, ta, tb, tc, rfl, sm1, hb1, B1, tb1⟩
      refine ⟨_, rfl, b, _, 9, o1, rfl, hb1, B1, by omega, by decide, big (by decide), fun v o2 v0 v1 B2 => ?_⟩
      obtain ⟨wd, hwd⟩ : ∃ wd : Nat, 1 + v = (wd : Int) := ⟨(1 + v).toNat, by omega⟩
      refine ⟨_, _, rfl, rfl, ?_⟩
      have w1 : 1 ≤ wd := by omega
      have w9 : wd ≤ 9 := by omega
      have w16 : wd ≤ 16 := by omega
      have p2 : 2 ^ wd ≤ 512 := by
        have e : ∀ j : Nat, j < 10 → 2 ^ j ≤ 512 := by decide
        exact e wd (by omega)
      have e2 : (1 : Int) * 2 ^ (1 + v).toNat = ((2 ^ wd : Nat) : Int) := by rw [hwd, Int.one_mul, Int.toNat_natCast, pow_cast]
      refine ⟨_, rfl, _, rfl, b, _, 1 + v, 9, o2, rfl, upd_same, B2, by omega, by omega, by omega, by decide, by decide, fun p vv H2 o4 sm2 hb2 B4 hp2 hI0 hin hlen => ?_⟩
      rw [hwd, Int.toNat_natCast] at hin
      have hl9 : vv.length ≤ 9 := by omega
      have hl10 : vv.length ≤ 10 := by omega
      obtain ⟨xs1, eo1⟩ := B1.lst
      have sm12 : Sam b H1 H2 := (Sam.upd (o := o2)).trans sm2
      refine ⟨_, rfl, b, _, 3, o4, rfl, hb2, B4, by omega, by decide, big (by decide), fun u o5 u0 u1 B5 => ?_⟩
      have npb : p ≠ b := fun z => by
        obtain ⟨xs, e⟩ := B4.lst
        rw [z, hb2, e] at hp2
        cases hp2
      have hp7 : (upd H2 b o5) p = some (.tup (nv vv)) := (upd_ne npb).trans hp2
      have hb7 : (upd H2 b o5) b = some o5 := upd_same
      have sm7 : Sam b H1 (upd H2 b o5) := sm12.trans Sam.upd
      clear hp2 hI0 hlen npb
      generalize (upd H2 b o5) = H7 at hp7 hb7 sm7 ⊢
      have B7 : BoxO (100 * (i : Int) + 50) o5 := B5.mono (by omega)
      refine ⟨rfl, _, rfl, ?_⟩
      refine ite2 (fun _ => ?g1) (fun _ => ?g2)
      case' g1 =>
        refine ⟨_, rfl, _, rfl, _, rfl, p, vv, rfl, hp7, by omega, fun q E H8 nq sm8 hq hA lE => ?_⟩
        have hb8 := sm8 _ _ hb7
        have nqb : q ≠ b := (ne_of_none hb7 nq).symm
        have lE1 := GF.all_len hA
        have h0E : 0 < E.length := by rw [lE1]; exact Nat.two_pow_pos _
        have lE5 : E.length ≤ 1000 := by
          have e : ∀ j : Nat, j < 10 → 2 ^ j ≤ 1000 := by decide
          rw [lE1]
          exact e _ (by have := GF.red0_len_le vv; omega)
        refine ⟨b, q, _, o5, nv E, rfl, hb8, B7, by omega, hq, nqb, by rw [nv_len]; exact h0E, by rw [nv_len]; exact lE5, fun j z o6 hj B8 => ?_⟩
        obtain ⟨y, ey, rfl, _⟩ := nv_at hj
        have hyS := (hA.iff y).mp (List.mem_of_getElem? ey)
        have hyw := GF.ins_lt hin hyS
        have npb8 : p ≠ b := fun z => by
          obtain ⟨xs, e⟩ := B5.lst
          rw [z, hb7, e] at hp7
          cases hp7
        have hp9 : (upd H8 b o6) p = some (.tup (nv vv)) := (upd_ne npb8).trans (sm8 _ _ hp7)
        have hb9 : (upd H8 b o6) b = some o6 := upd_same
        have sm9 : Sam b H1 (upd H8 b o6) := (sm7.trans (toSam sm8)).trans Sam.upd
        generalize (upd H8 b o6) = H9 at hp9 hb9 sm9 ⊢
        refine ⟨by show 1 ≤ sizeLine; decide, fun t ht => ?_⟩
        have hpt := (fun h => new_at (p := p) (u := .tup [V.int (y : Int)]) h ht) hp9
        have hbt := (fun h => new_at (p := b) (u := .tup [V.int (y : Int)]) h ht) hb9
        have smt : Sam b H1 (upd H9 t (.tup [V.int (y : Int)])) := sm9.new ht
        have htt : (upd H9 t (.tup [V.int (y : Int)])) t = some (.tup (nv [y])) := upd_same
        generalize (upd H9 t (.tup [V.int (y : Int)])) = H10 at hpt hbt smt htt ⊢
        refine ⟨p, t, vv, [y], rfl, rfl, hpt, htt, by rw [List.length_singleton]; omega, fun r H11 s11 hr11 => ?_⟩
        have hb11 := s11 _ _ hbt
        have sm11 := smt.trans (toSam s11)
        have hin11 : ∀ x ∈ vv ++ [y], x < 2 ^ wd := fun x hx => by
          rcases List.mem_append.mp hx with hx | hx
          · exact hin x hx
          · rw [List.mem_singleton.mp hx]
            exact hyw
        have hl11 : (vv ++ [y]).length ≤ 10 := by rw [List.length_append, List.length_singleton]; omega
        refine ⟨_, rfl, _, rfl, r, vv ++ [y], rfl, rfl, rfl, hr11, by omega, ?_⟩
        clear hin hl10 hp7 hb7 sm7 B7 sm9 hp9 hb9 hb8 sm8 hq hA lE npb8 hpt hbt htt ht nq nqb B4 B5 hb2 sm2 sm12
        generalize vv ++ [y] = ww at hr11 hin11 hl11 ⊢
        have B7 : BoxO (100 * (i : Int) + 60) o6 := B8.mono (by omega)
      case' g2 =>
        have B7' : BoxO (100 * (i : Int) + 60) o5 := B7.mono (by omega)
        clear B7 hl9 B4 B5 hb2 sm2 sm12
        have hr11 := hp7
        have hb11 := hb7
        have sm11 := sm7
        have hin11 := hin
        have hl11 := hl10
        have B7 := B7'
        clear B7' hp7 hb7 sm7 hin hl10
        obtain ⟨r, rfl⟩ : ∃ r, r = p := ⟨p, rfl⟩
        obtain ⟨ww, rfl⟩ : ∃ ww, ww = vv := ⟨vv, rfl⟩
        obtain ⟨H11, rfl⟩ : ∃ X, X = H7 := ⟨H7, rfl⟩
        obtain ⟨o6, rfl⟩ : ∃ X, X = o5 := ⟨o5, rfl⟩
      all_goals
        have tb11 : Tabs [(PT, qLam)] H11 := tabs_sam (by rw [hb1, eo1]) sm11 tb1
        have ew : ∀ y : Addr, [V.int (1 + v), V.ref y] ++ [] = [V.int (wd : Int), V.ref y] := fun y => by rw [hwd]; rfl
        refine ⟨_, rfl, _, rfl, wd, r, ww, ew r, w1, w9, hr11, hl11, hin11, fun H12 s12 => ?_⟩
        have hr12 := s12 _ _ hr11
        have hb12 := s12 _ _ hb11
        have tb12 := tb11.ext s12
        have ntb : ∀ ps, o6 ≠ .tbl ps := fun ps z => by
          obtain ⟨xs, e⟩ := B7.lst
          rw [e] at z
          cases z
        have smN : SamN b H H12 := (sm1.trans (SamN.of sm11)).trans (SamN.same s12)
        obtain ⟨g1, g2, g3, g4⟩ := dep_facts
        by_cases hI : Indep ww
        case neg =>
          have ed : dueD wd ww = dDep := if_neg fun z => hI ((GF.indep_iff ww).mp z)
          rw [ed]
          obtain ⟨z1, z2⟩ := two_str sok_dep
          refine ⟨tb12, fun H13 x13 tb13 => fun Q' hQ' H14 s14 => ?_⟩
          refine ⟨_, rfl, _, rfl, wd, r, ww, ew r, w1, w16, s14 _ _ (x13 _ _ hr12 nt_tup), by omega, hin11, fun z => absurd z hI, fun _ H15 s15 dd H15' x15 hn hxd => ⟨dd, .non, rfl, rfl, hxd, fun H16 s16 => ?_⟩⟩
          have s1316 : Same H13 H16 := ((s14.trans s15).trans x15).trans s16
          have x16 : ExtN H12 H16 := x13.trans (ExtN.of s1316)
          have tb16 := tb13.ext s1316
          refine ⟨by show 1 ≤ sizeLine; decide, fun l hl => ?_⟩
          have hl17 : (upd H16 l (.lst [V.str dDep.shown])) l = some (.lst [V.str dDep.shown]) := upd_same
          have s17 : Same H16 (upd H16 l (.lst [V.str dDep.shown])) := keep_new (Same.refl _) hl
          generalize (upd H16 l (.lst [V.str dDep.shown])) = H17 at hl17 s17 ⊢
          refine ⟨_, rfl, .inl ⟨rfl, _, SqL.of hl17⟩, tb16.ext s17, fun H18 x18 tb18 => fun Q' hQ' H19 s19 => ?_⟩
          refine ⟨_, rfl, _, rfl, wd, r, ww, (by show [V.int (1 + v), V.ref r] = _; rw [hwd]), w1, w16, s19 _ _ (x18 _ _ (s17 _ _ (x16 _ _ hr12 nt_tup)) nt_tup), by omega, hin11, fun z => absurd z hI, fun _ H20 s20 dd2 H20' x20 hn2 hxd2 => ⟨dd2, .non, rfl, rfl, hxd2, fun H21 s21 => ?_⟩⟩
          have s1821 : Same H18 H21 := ((s19.trans s20).trans x20).trans s21
          have hl21 := s1821 _ _ (x18 _ _ hl17 nt_lst)
          refine ⟨l, _, _, rfl, rfl, hl21, by show 1 < sizeLine; decide, ?_⟩
          have hl22 : (upd H21 l (.lst ([V.str dDep.shown] ++ [V.str dDep.shown]))) l = some (.lst [V.str dDep.shown, V.str dDep.shown]) := upd_same
          have x22 : ExtN H12 (upd H21 l (.lst ([V.str dDep.shown] ++ [V.str dDep.shown]))) := fun c o e nt => by
            have e16 := x16 c o e nt
            rw [upd_ne (ne_of_none e16 hl)]
            exact s1821 _ _ (x18 _ _ (s17 _ _ e16) nt)
          have tb22 : Tabs [(PT, qLam)] (upd H21 l (.lst ([V.str dDep.shown] ++ [V.str dDep.shown]))) := tabs_sam hl21 Sam.upd (tb18.ext s1821)
          generalize (upd H21 l (.lst ([V.str dDep.shown] ++ [V.str dDep.shown]))) = H22 at hl22 x22 tb22 ⊢
          refine ⟨_, rfl, _, rfl, _, rfl, by show 2 ≤ sizeLine; decide, fun e he => ?_⟩
          refine ⟨.list _, .list _, .lst (SqL.of (new_at hl22 he)) (.cons (.str _) (.cons (.str _) .nil)), .lst (SqL.of upd_same) (.cons (.str _) (.cons (.str _) .nil)), z1, z1, _, rfl, iteFb (by rw [z2]; rfl) ?_⟩
          refine ⟨_, rfl, by show 2 ≤ sizeLine; decide, fun e2' he2 => ?_⟩
          refine ⟨e2', dDep, rfl, .tup (SqT.of upd_same) (.cons (.str _) (.cons .non .nil)), g1, g2, g3, g4, ?_⟩
          refine ⟨rfl, _, rfl, iteNS rfl ?_⟩
          have sZ : ∀ {X : HO} {Y : HO}, Same H22 (upd (upd H22 e X) e2' Y) → ExtN H12 (upd (upd H22 e X) e2' Y) := fun h => x22.trans (ExtN.of h)
          have sF := keep_new (o := .tup [V.str "dependent", V.non]) (keep_new (o := .lst [V.str dDep.shown, V.str dDep.shown]) (Same.refl H22) he) he2
          have xF := x22.trans (ExtN.of sF)
          exact ⟨o6, _, _, _, _, _, _, _, _, _, _, _, _, rfl, smN.trans (SamN.ext xF), xF _ _ hb12 ntb, B7.mono (by omega), tb22.ext sF⟩
        have ed : dueD wd ww = dRet (comp ww wd) := if_pos ((GF.indep_iff ww).mpr hI)
        rw [ed]
        obtain ⟨z1, z2⟩ := two_str (sok_ret (comp ww wd))
        have cl := GF.comp_len hI hin11
        have clt : ∀ x ∈ comp ww wd, x < 65536 := fun x hx => Nat.lt_of_lt_of_le (GF.comp_lt hI hin11 x hx) (by omega)
        refine ⟨tb12, fun H13 x13 tb13 => fun Q' hQ' H14 s14 => ?_⟩
        refine ⟨_, rfl, _, rfl, wd, r, ww, ew r, w1, w16, s14 _ _ (x13 _ _ hr12 nt_tup), by omega, hin11, fun _ q H15 s15 hq => ?_, fun z => absurd hI z⟩
        refine hQ' q (comp ww wd) H15 hq (by omega) clt fun H16 s16 => ?_
        have s1316 : Same H13 H16 := (s14.trans s15).trans s16
        have x16 : ExtN H12 H16 := x13.trans (ExtN.of s1316)
        have tb16 := tb13.ext s1316
        refine ⟨by show 1 ≤ sizeLine; decide, fun l hl => ?_⟩
        have hl17 : (upd H16 l (.lst [V.str (dRet (comp ww wd)).shown])) l = some (.lst [V.str (dRet (comp ww wd)).shown]) := upd_same
        have s17 : Same H16 (upd H16 l (.lst [V.str (dRet (comp ww wd)).shown])) := keep_new (Same.refl _) hl
        generalize (upd H16 l (.lst [V.str (dRet (comp ww wd)).shown])) = H17 at hl17 s17 ⊢
        refine ⟨_, rfl, .inl ⟨rfl, _, SqL.of hl17⟩, tb16.ext s17, fun H18 x18 tb18 => fun Q' hQ' H19 s19 => ?_⟩
        refine ⟨_, rfl, _, rfl, wd, r, ww, (by show [V.int (1 + v), V.ref r] = _; rw [hwd]), w1, w16, s19 _ _ (x18 _ _ (s17 _ _ (x16 _ _ hr12 nt_tup)) nt_tup), by omega, hin11, fun _ q2 H20 s20 hq2 => ?_, fun z => absurd hI z⟩
        refine hQ' q2 (comp ww wd) H20 hq2 (by omega) clt fun H21 s21 => ?_
        have s1821 : Same H18 H21 := (s19.trans s20).trans s21
        have hl21 := s1821 _ _ (x18 _ _ hl17 nt_lst)
        refine ⟨l, _, _, rfl, rfl, hl21, by show 1 < sizeLine; decide, ?_⟩
        have hl22 : (upd H21 l (.lst ([V.str (dRet (comp ww wd)).shown] ++ [V.str (dRet (comp ww wd)).shown]))) l = some (.lst [V.str (dRet (comp ww wd)).shown, V.str (dRet (comp ww wd)).shown]) := upd_same
        have x22 : ExtN H12 (upd H21 l (.lst ([V.str (dRet (comp ww wd)).shown] ++ [V.str (dRet (comp ww wd)).shown]))) := fun c o e nt => by
          have e16 := x16 c o e nt
          rw [upd_ne (ne_of_none e16 hl)]
          exact s1821 _ _ (x18 _ _ (s17 _ _ e16) nt)
        have tb22 : Tabs [(PT, qLam)] (upd H21 l (.lst ([V.str (dRet (comp ww wd)).shown] ++ [V.str (dRet (comp ww wd)).shown]))) := tabs_sam hl21 Sam.upd (tb18.ext s1821)
        generalize (upd H21 l (.lst ([V.str (dRet (comp ww wd)).shown] ++ [V.str (dRet (comp ww wd)).shown]))) = H22 at hl22 x22 tb22 ⊢
        refine ⟨_, rfl, _, rfl, _, rfl, by show 2 ≤ sizeLine; decide, fun e he => ?_⟩
        refine ⟨.list _, .list _, .lst (SqL.of (new_at hl22 he)) (.cons (.str _) (.cons (.str _) .nil)), .lst (SqL.of upd_same) (.cons (.str _) (.cons (.str _) .nil)), z1, z1, _, rfl, iteFb (by rw [z2]; rfl) ?_⟩
        refine ⟨_, rfl, by show 2 ≤ sizeLine; decide, fun e2' he2 => ?_⟩
        refine ⟨e2', dDep, rfl, .tup (SqT.of upd_same) (.cons (.str _) (.cons .non .nil)), g1, g2, g3, g4, ?_⟩
        have sF := keep_new (o := .tup [V.str "dependent", V.non]) (keep_new (o := .lst [V.str (dRet (comp ww wd)).shown, V.str (dRet (comp ww wd)).shown]) (Same.refl H22) he) he2
        have xF := x22.trans (ExtN.of sF)
        have tbF := tb22.ext sF
        generalize (upd (upd H22 e (.lst [V.str (dRet (comp ww wd)).shown, V.str (dRet (comp ww wd)).shown])) e2' (.tup [V.str "dependent", V.non])) = H23 at xF tbF ⊢
        have hr23 := xF _ _ hr12 nt_tup
        have hb23 := xF _ _ hb12 ntb
        have sm23 : SamN b H H23 := smN.trans (SamN.ext xF)
        refine ⟨rfl, _, rfl, ?_⟩
        refine ite2 (fun _ => ?_) (fun _ => ⟨o6, _, _, _, _, _, _, _, _, _, _, _, _, rfl, sm23, hb23, B7.mono (by omega), tbF⟩)
        refine ⟨_, rfl, _, rfl, wd, r, ww, ew r, w1, w16, hr23, by omega, hin11, fun _ q3 H24 s24 hq3 => ?_, fun z => absurd hI z⟩
        refine ⟨_, rfl, _, _, rfl, rfl, ⟨by omega, by omega, by decide⟩, _, rfl, ?_, ?_, fun D hD => ?_⟩
        · show -(2 ^ 62) ≤ (1 : Int) * 2 ^ (1 + v).toNat
          rw [e2]
          exact Int.le_trans (by decide) (Int.natCast_nonneg _)
        · show (1 : Int) * 2 ^ (1 + v).toNat < 2 ^ 62
          rw [e2]
          exact Int.lt_of_le_of_lt (Int.ofNat_le.mpr p2) (by decide)
        have nqD : q3 ≠ D := ne_of_none hq3 hD
        refine lc_range (lo := 0) (fun t H' => (∀ c u, c ≠ D → H24 c = some u → H' c = some u) ∧ H' D = some (.lst (nv ((List.range t).map (bk (comp ww wd)))))) ⟨fun c u n e => by rw [upd_ne n]; exact e, upd_same⟩ ?_ ?_
        · rintro t H25 ht ⟨s1, hd⟩
          have htw : t < 2 ^ wd := by
            rw [e2] at ht
            omega
          have hq25 : H25 q3 = some (.tup (((comp ww wd).map fun n : Nat => (n : Int)).map V.int)) := by rw [← nv_ints]; exact s1 q3 _ nqD hq3
          refine ⟨rfl, yes (iteT ?_)⟩
          refine ⟨_, rfl, _, rfl, q3, (comp ww wd).map (fun n : Nat => (n : Int)), (t : Int), (by show [V.ref q3, V.int (0 + (t : Int))] ++ [] = _; rw [Int.zero_add]; rfl), hq25, by rw [List.length_map]; omega, by omega, nn_cast _, fun H26 s26 => ?_⟩
          refine ⟨_, s26 _ _ hd, ?_, fun c u n e => by rw [upd_ne n]; exact s26 _ _ (s1 c u n e), ?_⟩
          · rw [nv_len, List.length_map, List.length_range]
            exact Nat.lt_trans htw (Nat.lt_of_le_of_lt p2 (by decide))
          · rw [upd_same, List.range_succ, List.map_append, nv_app, bank_bk]
            rfl
        · rintro H25 ⟨s1, hd⟩
          have hd : H25 D = some (.lst (nv ((List.range (2 ^ wd)).map (bk (comp ww wd))))) := by
            rw [hd, e2]
            congr 4
          have s25 : Same H23 H25 := fun c u e => by
            have e24 := s24 _ _ e
            exact s1 c u (ne_of_none e24 hD) e24
          have hq25 := s1 _ _ nqD hq3
          refine ⟨_, rfl, q3, _, rfl, .inr (SqT.of hq25), _, rfl, rfl, _, rfl, iteFb ?_ ?_⟩
          · rw [nv_len, cl]
            show (!decide (V.int (wd : Int) = V.int (1 + v))) = false
            rw [hwd]
            simp
          rw [nv_ints] at hd
          refine ⟨_, rfl, D, _, rfl, SqL.of hd, fun L q4 pm hs hq4 => ?_⟩
          obtain ⟨F, eF, pF, sF'⟩ := sort_nats pm hs
          have eR : F = List.range (2 ^ wd) := List.Perm.eq_of_pairwise (le := (· ≤ ·)) (fun a b _ _ h1 h2 => Nat.le_antisymm h1 h2) sF' (List.pairwise_lt_range.imp fun h => Nat.le_of_lt h) (pF.trans (GF.places_all (fun x hx => (GF.comp_span hI hin11 x).mpr hx) cl))
          have s26 : Same H25 (upd H25 q4 (.lst (L.map V.int))) := keep_new (Same.refl _) hq4
          have hq26 : (upd H25 q4 (.lst (L.map V.int))) q4 = some (.lst (nv (List.range (2 ^ wd)))) := by rw [upd_same, eF, eR]
          generalize (upd H25 q4 (.lst (L.map V.int))) = H26 at s26 hq26 ⊢
          refine ⟨_, rfl, _, _, rfl, rfl, ⟨by omega, by omega, by decide⟩, _, rfl, ?_, fun q5 hq5 => ?_⟩
          · have h512 : ((2 ^ wd : Nat) : Int) ≤ 512 := Int.ofNat_le.mpr p2
            have h0 : (0 : Int) ≤ ((2 ^ wd : Nat) : Int) := Int.natCast_nonneg _
            show RgOk 0 ((1 : Int) * 2 ^ (1 + v).toNat)
            rw [e2]
            generalize ((2 ^ wd : Nat) : Int) = z at h512 h0 ⊢
            exact RgOk.of_le (Int.le_refl 0) (by omega) (by decide) h0
          have hq27 := (fun h => new_at (p := q4) (u := .lst (rgV 0 ((1 : Int) * 2 ^ (1 + v).toNat))) h hq5) hq26
          have hq5' : (upd H26 q5 (.lst (rgV 0 ((1 : Int) * 2 ^ (1 + v).toNat)))) q5 = some (.lst (nv (List.range (2 ^ wd)))) := by rw [upd_same, e2, rg_nv]
          have s27 : Same H26 (upd H26 q5 (.lst (rgV 0 ((1 : Int) * 2 ^ (1 + v).toNat)))) := keep_new (Same.refl _) hq5
          rw [nv_ints] at hq27 hq5'
          refine ⟨.list _, .list _, .lst (SqL.of hq27) (dpAll_ints _), .lst (SqL.of hq5') (dpAll_ints _), shaped_ints _, shaped_ints _, _, rfl, iteFb (by rw [eqv_same]; rfl) ?_⟩
          have sEnd := (s25.trans s26).trans s27
          exact ⟨o6, _, _, _, _, _, _, _, _, _, _, _, _, rfl, sm23.trans (SamN.same sEnd), sEnd _ _ hb23, B7.mono (by omega), tbF.ext sEnd⟩
    · rintro σ H1 ⟨o1, t1, t2, t3, t4, t5, t6, t7, t8, t9, ta, tb, tc, rfl, sm1, hb1, B1, tb1⟩
      refine ⟨_, rfl, by decide, by decide, for_range (lo := 0) (n := 3) (fun i σ H' => ∃ (o1 : HO) (t1 t2 t3 t4 t5 t6 t7 t8 t9 ta tb tc : Option V), σ = [some (.ref b), t1, t2, t3, t4, t5, t6, t7, t8, t9, ta, tb, tc] ∧ SamN b H H' ∧ H' b = some o1 ∧ BoxO (2000 + 100 * (i : Int)) o1 ∧ Tabs [(PT, qLam)] H')
        ⟨o1, _, _, _, _, _, _, _, _, _, _, _, _, rfl, sm1, hb1, B1.mono (by omega), tb1⟩ ?_ ?_⟩
      · rintro i σ H1 hi ⟨o1, t1, t2, t3, t4, t5, t6, t7, t8, t9, ta, tb, tc, rfl, sm1, hb1, B1, tb1⟩
        refine ⟨_, rfl, b, _, 16, 6, o1, rfl, hb1, B1, by omega, by decide, by decide, by decide, by decide, fun p vv H2 o4 sm2 hb2 B4 hp2 hI hin hlen => ?_⟩
        have hin : ∀ x ∈ vv, x < 2 ^ 16 := hin
        have hl6 : vv.length ≤ 6 := by omega
        obtain ⟨xs1, eo1⟩ := B1.lst
        have tb2 : Tabs [(PT, qLam)] H2 := tabs_sam (by rw [hb1, eo1]) sm2 tb1
        refine ⟨_, rfl, 16, p, vv, rfl, by decide, by decide, hp2, by omega, hin, fun _ q H3 s3 hq => ?_, fun z => absurd hI z⟩
        have cl := GF.comp_len hI hin
        obtain ⟨ps, eps, srt, hps⟩ := (GF.comp_is hI 16).app
        have hci := (GF.comp_is hI 16).ind
        have lps : ps.length ≤ 16 := by
          have := congrArg List.length eps
          rw [List.length_append, cl] at this
          omega
        have hp3 := s3 _ _ hp2
        generalize comp vv 16 = cc at cl eps hci hq
        have eT : cc.take (nv vv).length = vv := by rw [nv_len, eps, List.take_left' rfl]
        have eD : cc.drop (nv vv).length = ps := by rw [nv_len, eps, List.drop_left' rfl]
        refine ⟨_, rfl, _, rfl, p, _, rfl, .inr (SqT.of hp3), _, rfl, q, cc, (nv vv).length, rfl, rfl, rfl, hq, fun r1 H4 s4 hr1 => ?_⟩
        rw [eT, nv_ints] at hr1
        have hp4 := s4 _ _ hp3
        have hq4 := s4 _ _ hq
        have hp4i := hp4
        rw [nv_ints] at hp4i
        refine ⟨_, rfl, .tuple _, .tuple _, .tup (SqT.of hr1) (dpAll_ints _), .tup (SqT.of hp4i) (dpAll_ints _), shaped_tup _, shaped_tup _, _, rfl, iteFb (by rw [eqv_sameT]; rfl) ?_⟩
        refine ⟨_, rfl, q, _, rfl, .inr (SqT.of hq4), rfl, _, rfl, iteFb ?_ ?_⟩
        · rw [nv_len, cl]
          rfl
        refine ⟨_, rfl, _, rfl, q, cc, 9, rfl, rfl, rfl, hq4, fun r2 H5 s5 hr2' => ?_⟩
        refine ⟨r2, cc.take 9, rfl, hr2', by rw [List.length_take]; omega, fun H6 s6 => ⟨rfl, _, rfl, iteFb ?_ ?_⟩⟩
        · rw [GF.indep_red (GF.indep_prefix hci 9), List.length_take, cl]
          rfl
        have s46 := s5.trans s6
        have hp6 := s46 _ _ hp4
        have hq6 := s46 _ _ hq4
        refine ⟨_, rfl, _, rfl, p, _, rfl, .inr (SqT.of hp6), _, rfl, q, cc, (nv vv).length, rfl, rfl, rfl, hq6, fun r3 H7 s7 hr3 => ?_⟩
        rw [eD] at hr3
        have s27 : Same H2 H7 := ((s3.trans s4).trans s46).trans s7
        -- in order
        refine ⟨_, rfl, r3, _, rfl, .inr (SqT.of hr3), fun l hl => ?_⟩
        have hr3l := (fun h => new_at (p := r3) (u := .lst (nv ps)) h hl) hr3
        have hll : (upd H7 l (.lst (nv ps))) l = some (.lst (nv ps)) := upd_same
        have s7l : Same H7 (upd H7 l (.lst (nv ps))) := keep_new (Same.refl _) hl
        generalize (upd H7 l (.lst (nv ps))) = H7' at hr3l hll s7l ⊢
        have hr3i := hr3l
        rw [nv_ints] at hr3i
        refine ⟨_, rfl, r3, ps.map (fun n : Nat => (n : Int)), rfl, SqT.of hr3i, by rw [List.length_map]; omega, fun q2 L H8 sq hq2 hs hmL => ?_⟩
        have eL : L = ps.map fun n : Nat => (n : Int) := asc_same hs srt hmL
        subst eL
        have hlq := sq _ _ hll
        rw [nv_ints] at hlq
        refine ⟨.list _, .list _, .lst (SqL.of hlq) (dpAll_ints _), .lst (SqL.of hq2) (dpAll_ints _), shaped_ints _, shaped_ints _, _, rfl, iteFb (by rw [eqv_same]; rfl) ?_⟩
        have s28 : Same H2 H8 := (s27.trans s7l).trans sq
        have hr8 := sq _ _ hr3l
        -- powers of two
        refine ⟨_, rfl, r3, rfl, ⟨_, SqT.of hr8⟩, fun D hD => ?_⟩
        have nrD : r3 ≠ D := ne_of_none hr8 hD
        refine lc_tup (K := K) (a := r3) (xs := nv ps) (fun t H' => (∀ c u, c ≠ D → H8 c = some u → H' c = some u) ∧ H' D = some (.lst ((List.replicate t true).map V.bl))) ⟨fun c u n e => by rw [upd_ne n]; exact e, upd_same⟩ (fun t H' _ ⟨s2, _⟩ => SqT.of (s2 r3 _ nrD hr8)) ?_ ?_
        · rintro t x H9 hx ⟨s9, hd⟩
          obtain ⟨m, em, rfl, ht⟩ := nv_at hx
          obtain ⟨j, hj, ej⟩ := hps m (List.mem_of_getElem? em)
          refine ⟨rfl, yes (iteT ?_)⟩
          refine ⟨_, rfl, _, rfl, by decide, by decide, fun D2 hD2 => ?_⟩
          have nDD : D ≠ D2 := ne_of_none hd hD2
          refine lc_range (lo := 0) (n := 16) (fun i H' => (∀ c u, c ≠ D2 → H9 c = some u → H' c = some u) ∧ H' D2 = some (.lst (nv ((List.range i).map (2 ^ ·))))) ⟨fun c u n e => by rw [upd_ne n]; exact e, upd_same⟩ ?_ ?_
          · rintro i H10 hi ⟨s10, hd10⟩
            refine ⟨rfl, yes (iteT ?_)⟩
            refine ⟨_, rfl, _, _, rfl, rfl, ⟨by omega, by omega, by decide⟩, _, hd10, ?_, ?_, ?_⟩
            · rw [nv_len, List.length_map, List.length_range]
              exact Nat.lt_of_lt_of_le hi (by decide)
            · exact fun c u n e => by rw [upd_ne n]; exact s10 c u n e
            · rw [upd_same, List.range_succ, List.map_append]
              show some (HO.lst (nv _ ++ [V.int (1 * 2 ^ ((0 : Int) + (i : Int)).toNat)])) = _
              rw [Int.one_mul, show ((0 : Int) + (i : Int)).toNat = i by omega, ← pow_cast]
              unfold nv
              rw [List.map_append]
              rfl
          · rintro H10 ⟨s10, hd10⟩
            refine ⟨D2, _, rfl, .inl (SqL.of hd10), rfl, flat_nv _, _, s10 _ _ nDD hd, ?_, ?_, ?_⟩
            · rw [List.length_map, List.length_replicate]
              exact Nat.lt_of_lt_of_le ht (Nat.le_trans lps (by decide))
            · intro c u n e
              rw [upd_ne n]
              have e9 := s9 c u n e
              exact s10 c u (ne_of_none e9 hD2) e9
            · have hin16 : inV (.int (m : Int)) (nv ((List.range 16).map (2 ^ ·))) = true := by
                rw [in_nv, List.any_eq_true]
                exact ⟨m, List.mem_map.mpr ⟨j, List.mem_range.mpr hj, ej.symm⟩, beq_iff_eq.mpr rfl⟩
              rw [upd_same, List.replicate_succ', List.map_append]
              show some (HO.lst (_ ++ [V.bl (inV (.int (m : Int)) (nv ((List.range 16).map (2 ^ ·))))])) = _
              rw [hin16]
              rfl
        · rintro H9 ⟨s9, hd⟩
          refine ⟨D, _, rfl, SqL.of hd, _, rfl, ?_⟩
          rw [show (List.replicate (nv ps).length true).all id = true by simp]
          have sE : Same H2 H9 := fun c u e => by
            have e8 := s28 c u e
            exact s9 c u (ne_of_none e8 hD) e8
          exact iteF ⟨o4, _, _, _, _, _, _, _, _, _, _, _, _, rfl, (sm1.trans (SamN.of sm2)).trans (SamN.same sE), sE _ _ hb2, B4.mono (by omega), tb2.ext sE⟩
      · rintro σ H1 ⟨o1, t1, t2, t3, t4, t5, t6, t7, t8, t9, ta, tb, tc, rfl, sm1, hb1, B1, tb1⟩
        exact k H1 sm1 tb1
end
end X1
set_option Elab.async false
set_option maxRecDepth 100000
set_option maxHeartbeats 4000000
set_option pp.maxSteps 600
namespace X1
open PySem L2
open LamX (Tabs TabS TabB CodeO ExtN)
theorem seqN {K : PySem.W.Frag} {H H' : Hp} {a : Addr} {xs : List V} (e : ExtN H H') (h : SqL K H a xs) : SqL K H' a xs := by
  rcases h with (h | ⟨o, h⟩) | h
  · exact .inl (.inl (e _ _ h fun ps z => by cases z))
  · exact .inl (.inr ⟨o, e _ _ h fun ps z => by cases z⟩)
  · exact .inr h
section
variable {P : Program} {w : World} {K : PySem.W.Frag} {mg : Str → Option Value} {base : Heap}
/-! ### law -/
def spLaw (K : PySem.W.Frag) (PT : Addr) : Sp := fun vs H Q _ => ∃ (a : Addr) (ns : List Int), vs = [.ref a] ∧ SqL K H a (ns.map V.int) ∧ ns.length ≤ 63 ∧ Tabs [(PT, qLam)] H ∧ ∀ H', Q (.bl true) H'
theorem scLaw : FnScope ["_law_script", "_law_k"] ["_law_script"] (defScope sLaw) := ⟨rfl, rfl, rfl, by decide +kernel, rfl, by decide +kernel, by decide +kernel⟩
theorem ok_law {f fR fB fW PT : Addr} {fd fdR fdB fdW : FuncData} (A0 : Fun K "law" "law" sLaw f fd) (mR : mg "_law_right" = some (.ref fR)) (kR : PySem.W.keepIn K (.ref fR) = true) (bR : Binds K fdR ["_law_box_here"] []) (AB : At K mg "_law_box" sBox ["_law_script", "_law_k"] fB fdB)
    (AW : At K mg "_law_wide_right" sWide ["_law_box_here"] fW fdW) (GW : FnOk P w K mg base CX0 7 fW fdW ["_law_box_here"] spWide) (GR : G.FnG P w K mg base 9 fR fdR ["_law_box_here"] (spRight PT)) (T : Txt K mg) : G.FnG P w K mg base 10 f fd ["_law_script"] (spLaw K PT) := by
  have GB : FnOk P w K mg base CX0 1 fB fdB ["_law_script", "_law_k"] (spBox K) := ok_box AB T
  refine G.okG A0 scLaw (fun vs H Q E h => ?_) (fun cdv A outer s H vs Q E hga hr h => ?_)
  · obtain ⟨a, ns, rfl, _⟩ := h
    rfl
  · obtain ⟨a, ns, rfl, hS, hl, tabs, k⟩ := h
    have hr1 : Room 1 _ := hr.mono (by decide)
    have hr7 : Room 7 _ := hr.mono (by decide)
    have hgu : (A.deeper (PyProof.Rows.envOfC "law" (defScope sLaw) s.heap.objs.size f cdv)).guards = some [] := hga
    refine ⟨_, pss_cons (ps_if (pt_not (pt_val (pe_call GW hr7 (by rfl) AW.mg AW.fn.kp AW.bi .nil pass0 (pa_cons (pe_call GB hr1 (by rfl) AB.mg AB.fn.kp AB.bi .nil pass0 (pa_cons (pv 0) (pa_cons pe_int pa_nil))) pa_nil)))) (pss_one (ps_ret pe_bl)) pss_nil)
      (pss_one (ps_ret (pe_callB (cr_all rfl) (by rfl) T.all (by decide +kernel) (pa_cons (pe_lc (own := [("_law_k", 1)]) (g := gName 1) (tt := tYes) rfl scLaw.nd (pi_range1 (by rfl) T.range (pa_cons (pe_callB (call_max2 rfl) (by rfl) T.max (by decide +kernel) (pa_cons pe_int (pa_cons (pe_callB (call_min2 rfl) (by rfl) T.min (by decide +kernel) (pa_cons (pe_callB call_len_seq (by rfl) T.len PySem.boot_len (pa_cons (pv 0) pa_nil)) (pa_cons pe_int pa_nil))) pa_nil))) pa_nil)) (blkOk_by (N := ["_law_script", "_law_k"]) (sc := defScope sLaw) (by decide +kernel)) (fun _ _ _ _ _ => pg_name (i := 1) scLaw.nd rfl (Or.inl rfl)) (fun _ _ _ _ _ => pts_nil) (fun _ _ _ _ _ => G.pe_callG GR hgu hr (by rfl) mR kR bR .nil (pa_cons (pe_call GB hr1 (by rfl) AB.mg AB.fn.kp AB.bi .nil pass0 (pa_cons (pv 0) (pa_cons (pv 1) pa_nil))) pa_nil))) pa_nil)))), ?_⟩
    refine ⟨_, rfl, a, ns, 0, rfl, hS, by decide, fun b0 o0 hb0 B0 => ?_⟩
    refine ⟨b0, 0, o0, rfl, upd_same, B0, by decide, fun H1 s1 => ⟨_, rfl, iteF ?_⟩⟩
    have x1 : Same H H1 := fun c u e => s1 c u (ne_of_none e hb0) ((upd_ne (ne_of_none e hb0)).trans e)
    have tb1 : Tabs [(PT, qLam)] H1 := tabs.ext x1
    have hS1 := x1.seq hS
    refine ⟨_, rfl, a, _, rfl, .inl hS1, _, _, rfl, _, _, rfl, ?_⟩
    rw [List.length_map]
    refine ⟨_, rfl, ?_, ?_, ?_⟩
    · show -(2 ^ 62) ≤ (if (if (3 : Int) < (ns.length : Int) then (3 : Int) else (ns.length : Int)) > 1 then (if (3 : Int) < (ns.length : Int) then (3 : Int) else (ns.length : Int)) else 1)
      omega
    · show (if (if (3 : Int) < (ns.length : Int) then (3 : Int) else (ns.length : Int)) > 1 then (if (3 : Int) < (ns.length : Int) then (3 : Int) else (ns.length : Int)) else 1) < 2 ^ 62
      omega
    intro D hD
    refine lc_range (lo := 0) (fun i H' => ExtN H1 H' ∧ Tabs [(PT, qLam)] H' ∧ H' D = some (.lst ((List.replicate i true).map V.bl))) ⟨fun c o e _ => by rw [upd_ne (ne_of_none e hD)]; exact e, tb1.ext (fun c o e => by rw [upd_ne (ne_of_none e hD)]; exact e), upd_same⟩ ?_ ?_
    · rintro i H2 hi ⟨s2, tb2, hd⟩
      have hi3 : i < 3 := by
        have hi' : i < ((if (if (3 : Int) < (ns.length : Int) then (3 : Int) else (ns.length : Int)) > 1 then (if (3 : Int) < (ns.length : Int) then (3 : Int) else (ns.length : Int)) else 1)).toNat := hi
        omega
      refine ⟨rfl, yes (iteT ?_)⟩
      refine ⟨_, rfl, _, rfl, a, ns, i, by rw [Int.zero_add]; rfl, seqN s2 hS1, by omega, fun b o hb B => ?_⟩
      have nDb : D ≠ b := ne_of_none hd hb
      refine ⟨b, o, rfl, upd_same, B, tb2.ext (fun c u e => new_at e hb), fun H3 s3 tb3 => ?_⟩
      have hD3 : H3 D = some (.lst ((List.replicate i true).map V.bl)) := s3 D _ nDb nt_lst ((upd_ne nDb).trans hd)
      refine ⟨_, hD3, ?_, fun c u e nt => ?_, tabs_sam hD3 Sam.upd tb3, ?_⟩
      · rw [List.length_map, List.length_replicate]
        exact Nat.lt_trans hi3 (by decide)
      · have ncD : c ≠ D := ne_of_none e hD
        have e1 := s2 c u e nt
        have ncb : c ≠ b := ne_of_none e1 hb
        rw [upd_ne ncD]
        exact s3 c u ncb nt ((upd_ne ncb).trans e1)
      · rw [upd_same, List.replicate_succ', List.map_append]
        rfl
    · rintro H2 ⟨s2, tb2, hd⟩
      refine ⟨D, _, rfl, SqL.of hd, ?_⟩
      rw [show ∀ j : Nat, (List.replicate j true).all id = true from fun j => by simp]
      exact k H2
end
end X1
set_option Elab.async false
set_option maxRecDepth 100000
set_option maxHeartbeats 8000000
set_option pp.maxSteps 600
namespace X1
open PySem L2
open LamX (Tabs TabS TabB CodeO ExtN)
open G (spInit ClsFn FunD KxC)
theorem tab_in {K : PySem.W.Frag} {x : Str} {f c P : Addr} {oc e : Value} {od dd : Option Addr} {fd : FuncData} {sl sl2 : Array (Option Value)} {vs : Array Value} (a : PySem.W.nsIn K mainGlobals x = some (some (.ref f))) (l : K.lookup f = some ⟨oc, od, .func fd, sl⟩) (hc : fd.code = .ref c)
    (lc : K.lookup c = some ⟨e, dd, .fields vs, sl2⟩) (lp : vs[11]? = some (.ref P)) : PySem.W.tabIn K x = some (c, P) := by
  unfold PySem.W.tabIn
  rw [a]
  dsimp only
  rw [l]
  dsimp only
  rw [hc]
  dsimp only
  rw [lc]
  dsimp only
  rw [lp]
theorem all_mk {l : PySem.W.OpenLaw} {w : World} {K : PySem.W.Frag} {h : Heap} {mg : Str → Option Value} {fa fin fiw f0 f1 f2 f3 f4 f5 f6 f7 f8 f9 f10 f11 f12 f13 f14 f15 f16 f17 f18 f19 f20 f21 f22 f23 f24 f25 CB CD CW CM e0 e4 cc PT TD : Addr} {pq : Program} (X : K.In h) (Gn : h.Ns mainGlobals mg) (hfa : mg "law" = some (.ref fa)) (fresh : ∀ y, ((PyProof.Rows.recsOf pq).find? fun e => e.name == y).isSome = true → G.Fresh K y h) (isr : ((PyProof.Rows.recsOf pq).find? fun e => e.name == ("_law_right" : Str)).isSome = true)
    {od0 an0 od1 an1 od2 an2 od3 an3 od4 an4 od5 an5 od6 an6 od7 an7 od8 an8 od9 an9 od10 an10 od11 an11 od12 an12 od13 an13 od14 an14 od15 an15 od16 an16 od17 an17 od18 an18 od19 an19 od20 an20 od21 an21 od22 an22 od23 an23 od24 an24 od25 an25 : Option Addr} {sl0 sl1 sl2 sl3 sl4 sl5 sl6 sl7 sl8 sl9 sl10 sl11 sl12 sl13 sl14 sl15 sl16 sl17 sl18 sl19 sl20 sl21 sl22 sl23 sl24 sl25 : Array (Option Value)} {oc0 kV0 dc0 pm0 cd0 ct0 oc1 kV1 dc1 pm1 cd1 ct1 oc2 kV2 dc2 pm2 cd2 ct2 oc3 kV3 dc3 pm3 cd3 ct3 oc4 kV4 dc4 pm4 cd4 ct4 oc5 kV5 dc5 pm5 cd5 ct5 oc6 kV6 dc6 pm6 cd6 ct6 oc7 kV7 dc7 pm7 cd7 ct7 oc8 kV8 dc8 pm8 cd8 ct8 oc9 kV9 dc9 pm9 cd9 ct9 oc10 kV10 dc10 pm10 cd10 ct10 oc11 kV11 dc11 pm11 cd11 ct11 oc12 kV12 dc12 pm12 cd12 ct12 oc13 kV13 dc13 pm13 cd13 ct13 oc14 kV14 dc14 pm14 cd14 ct14 oc15 kV15 dc15 pm15 cd15 ct15 oc16 kV16 dc16 pm16 cd16 ct16 oc17 kV17 dc17 pm17 cd17 ct17 oc18 kV18 dc18 pm18 cd18 ct18 oc19 kV19 dc19 pm19 cd19 ct19 oc20 kV20 dc20 pm20 cd20 ct20 oc21 kV21 dc21 pm21 cd21 ct21 oc22 kV22 dc22 pm22 cd22 ct22 oc23 kV23 dc23 pm23 cd23 ct23 oc24 kV24 dc24 pm24 cd24 ct24 oc25 kV25 dc25 pm25 cd25 ct25 : Value} {tk0 tk1 : Tok}
    {qe oI0 xo kI0 cI0 mI0 uI0 tI0 oI5 kI5 cI5 mI5 uI5 tI5 : Value} {xn : Nat} {xsl : Array (Option Value)} {xd qdd aI0 bI0 aI5 bI5 : Option Addr} {qvs : Array Value} {qsl slI0 slI5 : Array (Option Value)} {nm q : Str} {N : Addr} {bs bm : List Value} {sn : List Str} {sub : List Value} {ab : Bool} {col : Option Bool} {dd : Option Addr} {m0x m1x m2x m3x m5x : Option Value}
    {odin anin : Option Addr} {slin : Array (Option Value)} {ocin kVin dcin pmin cdin ctin : Value}
    (ain : PySem.W.nsIn K mainGlobals "independent" = some (some (.ref fin))) (lin : K.lookup fin = some ⟨ocin, odin, .func (PySem.W.fnOf "independent" "independent" (defArgs sIndepN) (defBody sIndepN) (defScope sIndepN) .none kVin dcin pmin anin cdin ctin), slin⟩) (cin : PySem.W.codeIn K cdin "independent" = true) (kin : PySem.W.keepIn K (.ref fin) = true)
    {odiw aniw : Option Addr} {sliw : Array (Option Value)} {ociw kViw dciw pmiw cdiw ctiw : Value}
    (aiw : PySem.W.nsIn K mainGlobals "is_width" = some (some (.ref fiw))) (liw : K.lookup fiw = some ⟨ociw, odiw, .func (PySem.W.fnOf "is_width" "is_width" (defArgs sIsWidth) (defBody sIsWidth) (defScope sIsWidth) .none kViw dciw pmiw aniw cdiw ctiw), sliw⟩) (ciw : PySem.W.codeIn K cdiw "is_width" = true) (kiw : PySem.W.keepIn K (.ref fiw) = true)
    (a0 : PySem.W.nsIn K mainGlobals "is_int" = some (some (.ref f0))) (l0 : K.lookup f0 = some ⟨oc0, od0, .func (PySem.W.fnOf "is_int" "is_int" (defArgs sIsInt) (defBody sIsInt) (defScope sIsInt) .none kV0 dc0 pm0 an0 cd0 ct0), sl0⟩) (c0 : PySem.W.codeIn K cd0 "is_int" = true) (k0 : PySem.W.keepIn K (.ref f0) = true)
    (a1 : PySem.W.nsIn K mainGlobals "is_address" = some (some (.ref f1))) (l1 : K.lookup f1 = some ⟨oc1, od1, .func (PySem.W.fnOf "is_address" "is_address" (defArgs sIsAddr) (defBody sIsAddr) (defScope sIsAddr) .none kV1 dc1 pm1 an1 cd1 ct1), sl1⟩) (c1 : PySem.W.codeIn K cd1 "is_address" = true) (k1 : PySem.W.keepIn K (.ref f1) = true)
    (a2 : PySem.W.nsIn K mainGlobals "are_addresses" = some (some (.ref f2))) (l2 : K.lookup f2 = some ⟨oc2, od2, .func (PySem.W.fnOf "are_addresses" "are_addresses" (defArgs sAreAddrs) (defBody sAreAddrs) (defScope sAreAddrs) .none kV2 dc2 pm2 an2 cd2 ct2), sl2⟩) (c2 : PySem.W.codeIn K cd2 "are_addresses" = true) (k2 : PySem.W.keepIn K (.ref f2) = true)
    (a3 : PySem.W.nsIn K mainGlobals "are_masks" = some (some (.ref f3))) (l3 : K.lookup f3 = some ⟨oc3, od3, .func (PySem.W.fnOf "are_masks" "are_masks" (defArgs sAreMasks) (defBody sAreMasks) (defScope sAreMasks) .none kV3 dc3 pm3 an3 cd3 ct3), sl3⟩) (c3 : PySem.W.codeIn K cd3 "are_masks" = true) (k3 : PySem.W.keepIn K (.ref f3) = true)
    (a4 : PySem.W.nsIn K mainGlobals "check_width" = some (some (.ref f4))) (l4 : K.lookup f4 = some ⟨oc4, od4, .func (PySem.W.fnOf "check_width" "check_width" (defArgs sCkWidth) (defBody sCkWidth) (defScope sCkWidth) .none kV4 dc4 pm4 an4 cd4 ct4), sl4⟩) (c4 : PySem.W.codeIn K cd4 "check_width" = true) (k4 : PySem.W.keepIn K (.ref f4) = true)
    (a5 : PySem.W.nsIn K mainGlobals "check_map" = some (some (.ref f5))) (l5 : K.lookup f5 = some ⟨oc5, od5, .func (PySem.W.fnOf "check_map" "check_map" (defArgs sCkMap) (defBody sCkMap) (defScope sCkMap) .none kV5 dc5 pm5 an5 cd5 ct5), sl5⟩) (c5 : PySem.W.codeIn K cd5 "check_map" = true) (k5 : PySem.W.keepIn K (.ref f5) = true)
    (a6 : PySem.W.nsIn K mainGlobals "remainder" = some (some (.ref f6))) (l6 : K.lookup f6 = some ⟨oc6, od6, .func (PySem.W.fnOf "remainder" "remainder" (defArgs sRem) (defBody sRem) (defScope sRem) .none kV6 dc6 pm6 an6 cd6 ct6), sl6⟩) (c6 : PySem.W.codeIn K cd6 "remainder" = true) (k6 : PySem.W.keepIn K (.ref f6) = true)
    (a7 : PySem.W.nsIn K mainGlobals "reduced" = some (some (.ref f7))) (l7 : K.lookup f7 = some ⟨oc7, od7, .func (PySem.W.fnOf "reduced" "reduced" (defArgs sRed) (defBody sRed) (defScope sRed) .none kV7 dc7 pm7 an7 cd7 ct7), sl7⟩) (c7 : PySem.W.codeIn K cd7 "reduced" = true) (k7 : PySem.W.keepIn K (.ref f7) = true)
    (a8 : PySem.W.nsIn K mainGlobals "powers" = some (some (.ref f8))) (l8 : K.lookup f8 = some ⟨oc8, od8, .func (PySem.W.fnOf "powers" "powers" (defArgs sPowers) (defBody sPowers) (defScope sPowers) .none kV8 dc8 pm8 an8 cd8 ct8), sl8⟩) (c8 : PySem.W.codeIn K cd8 "powers" = true) (k8 : PySem.W.keepIn K (.ref f8) = true)
    (a9 : PySem.W.nsIn K mainGlobals "are_independent" = some (some (.ref f9))) (l9 : K.lookup f9 = some ⟨oc9, od9, .func (PySem.W.fnOf "are_independent" "are_independent" (defArgs sInd) (defBody sInd) (defScope sInd) .none kV9 dc9 pm9 an9 cd9 ct9), sl9⟩) (c9 : PySem.W.codeIn K cd9 "are_independent" = true) (k9 : PySem.W.keepIn K (.ref f9) = true)
    (a10 : PySem.W.nsIn K mainGlobals "completed" = some (some (.ref f10))) (l10 : K.lookup f10 = some ⟨oc10, od10, .func (PySem.W.fnOf "completed" "completed" (defArgs sComp) (defBody sComp) (defScope sComp) .none kV10 dc10 pm10 an10 cd10 ct10), sl10⟩) (c10 : PySem.W.codeIn K cd10 "completed" = true) (k10 : PySem.W.keepIn K (.ref f10) = true)
    (a11 : PySem.W.nsIn K mainGlobals "_law_box" = some (some (.ref f11))) (l11 : K.lookup f11 = some ⟨oc11, od11, .func (PySem.W.fnOf "_law_box" "_law_box" (defArgs sBox) (defBody sBox) (defScope sBox) .none kV11 dc11 pm11 an11 cd11 ct11), sl11⟩) (c11 : PySem.W.codeIn K cd11 "_law_box" = true) (k11 : PySem.W.keepIn K (.ref f11) = true)
    (a12 : PySem.W.nsIn K mainGlobals "_law_take" = some (some (.ref f12))) (l12 : K.lookup f12 = some ⟨oc12, od12, .func (PySem.W.fnOf "_law_take" "_law_take" (defArgs sTake) (defBody sTake) (defScope sTake) .none kV12 dc12 pm12 an12 cd12 ct12), sl12⟩) (c12 : PySem.W.codeIn K cd12 "_law_take" = true) (k12 : PySem.W.keepIn K (.ref f12) = true)
    (a13 : PySem.W.nsIn K mainGlobals "_law_of" = some (some (.ref f13))) (l13 : K.lookup f13 = some ⟨oc13, od13, .func (PySem.W.fnOf "_law_of" "_law_of" (defArgs sOf) (defBody sOf) (defScope sOf) .none kV13 dc13 pm13 an13 cd13 ct13), sl13⟩) (c13 : PySem.W.codeIn K cd13 "_law_of" = true) (k13 : PySem.W.keepIn K (.ref f13) = true)
    (a14 : PySem.W.nsIn K mainGlobals "_law_odd_ones" = some (some (.ref f14))) (l14 : K.lookup f14 = some ⟨oc14, od14, .func (PySem.W.fnOf "_law_odd_ones" "_law_odd_ones" (defArgs sOdd) (defBody sOdd) (defScope sOdd) .none kV14 dc14 pm14 an14 cd14 ct14), sl14⟩) (c14 : PySem.W.codeIn K cd14 "_law_odd_ones" = true) (k14 : PySem.W.keepIn K (.ref f14) = true)
    (a15 : PySem.W.nsIn K mainGlobals "_law_place" = some (some (.ref f15))) (l15 : K.lookup f15 = some ⟨oc15, od15, .func (PySem.W.fnOf "_law_place" "_law_place" (defArgs sPlace) (defBody sPlace) (defScope sPlace) .none kV15 dc15 pm15 an15 cd15 ct15), sl15⟩) (c15 : PySem.W.codeIn K cd15 "_law_place" = true) (k15 : PySem.W.keepIn K (.ref f15) = true)
    (a16 : PySem.W.nsIn K mainGlobals "_law_all_of" = some (some (.ref f16))) (l16 : K.lookup f16 = some ⟨oc16, od16, .func (PySem.W.fnOf "_law_all_of" "_law_all_of" (defArgs sAllOf) (defBody sAllOf) (defScope sAllOf) .none kV16 dc16 pm16 an16 cd16 ct16), sl16⟩) (c16 : PySem.W.codeIn K cd16 "_law_all_of" = true) (k16 : PySem.W.keepIn K (.ref f16) = true)
    (a17 : PySem.W.nsIn K mainGlobals "_law_rank" = some (some (.ref f17))) (l17 : K.lookup f17 = some ⟨oc17, od17, .func (PySem.W.fnOf "_law_rank" "_law_rank" (defArgs sRank) (defBody sRank) (defScope sRank) .none kV17 dc17 pm17 an17 cd17 ct17), sl17⟩) (c17 : PySem.W.codeIn K cd17 "_law_rank" = true) (k17 : PySem.W.keepIn K (.ref f17) = true)
    (a18 : PySem.W.nsIn K mainGlobals "_law_lot" = some (some (.ref f18))) (l18 : K.lookup f18 = some ⟨oc18, od18, .func (PySem.W.fnOf "_law_lot" "_law_lot" (defArgs sLot) (defBody sLot) (defScope sLot) .none kV18 dc18 pm18 an18 cd18 ct18), sl18⟩) (c18 : PySem.W.codeIn K cd18 "_law_lot" = true) (k18 : PySem.W.keepIn K (.ref f18) = true)
    (a19 : PySem.W.nsIn K mainGlobals "_law_told" = some (some (.ref f19))) (l19 : K.lookup f19 = some ⟨oc19, od19, .func (PySem.W.fnOf "_law_told" "_law_told" (defArgs sTold) (defBody sTold) (defScope sTold) .none kV19 dc19 pm19 an19 cd19 ct19), sl19⟩) (c19 : PySem.W.codeIn K cd19 "_law_told" = true) (k19 : PySem.W.keepIn K (.ref f19) = true)
    (a20 : PySem.W.nsIn K mainGlobals "_law_free_lot" = some (some (.ref f20))) (l20 : K.lookup f20 = some ⟨oc20, od20, .func (PySem.W.fnOf "_law_free_lot" "_law_free_lot" (defArgs sFree) (defBody sFree) (defScope sFree) .none kV20 dc20 pm20 an20 cd20 ct20), sl20⟩) (c20 : PySem.W.codeIn K cd20 "_law_free_lot" = true) (k20 : PySem.W.keepIn K (.ref f20) = true)
    (a21 : PySem.W.nsIn K mainGlobals "_law_due" = some (some (.ref f21))) (l21 : K.lookup f21 = some ⟨oc21, od21, .func (PySem.W.fnOf "_law_due" "_law_due" (defArgs sDue) (defBody sDue) (defScope sDue) .none kV21 dc21 pm21 an21 cd21 ct21), sl21⟩) (c21 : PySem.W.codeIn K cd21 "_law_due" = true) (k21 : PySem.W.keepIn K (.ref f21) = true)
    (a22 : PySem.W.nsIn K mainGlobals "_law_own_rank" = some (some (.ref f22))) (l22 : K.lookup f22 = some ⟨oc22, od22, .func (PySem.W.fnOf "_law_own_rank" "_law_own_rank" (defArgs sOwn) (defBody sOwn) (defScope sOwn) .none kV22 dc22 pm22 an22 cd22 ct22), sl22⟩) (c22 : PySem.W.codeIn K cd22 "_law_own_rank" = true) (k22 : PySem.W.keepIn K (.ref f22) = true)
    (a23 : PySem.W.nsIn K mainGlobals "_law_wide_right" = some (some (.ref f23))) (l23 : K.lookup f23 = some ⟨oc23, od23, .func (PySem.W.fnOf "_law_wide_right" "_law_wide_right" (defArgs sWide) (defBody sWide) (defScope sWide) .none kV23 dc23 pm23 an23 cd23 ct23), sl23⟩) (c23 : PySem.W.codeIn K cd23 "_law_wide_right" = true) (k23 : PySem.W.keepIn K (.ref f23) = true)
    (a24 : PySem.W.nsIn K mainGlobals "_law_right" = some (some (.ref f24))) (l24 : K.lookup f24 = some ⟨oc24, od24, .func (PySem.W.fnOf "_law_right" "_law_right" (defArgs sRight) (defBody sRight) (defScope sRight) .none kV24 dc24 pm24 an24 (.ref cc) ct24), sl24⟩) (c24 : PySem.W.codeIn K (.ref cc) "_law_right" = true) (k24 : PySem.W.keepIn K (.ref f24) = true)
    (a25 : PySem.W.nsIn K mainGlobals "law" = some (some (.ref f25))) (l25 : K.lookup f25 = some ⟨oc25, od25, .func (PySem.W.fnOf "law" "law" (defArgs sLaw) (defBody sLaw) (defScope sLaw) .none kV25 dc25 pm25 an25 cd25 ct25), sl25⟩) (c25 : PySem.W.codeIn K cd25 "law" = true) (k25 : PySem.W.keepIn K (.ref f25) = true)
    (z0 : PySem.W.nsIn K mainGlobals "isinstance" = some none)
    (z1 : PySem.W.nsIn K mainGlobals "int" = some none)
    (z2 : PySem.W.nsIn K mainGlobals "bool" = some none)
    (z3 : PySem.W.nsIn K mainGlobals "tuple" = some none)
    (z4 : PySem.W.nsIn K mainGlobals "len" = some none)
    (z5 : PySem.W.nsIn K mainGlobals "all" = some none)
    (z6 : PySem.W.nsIn K mainGlobals "sum" = some none)
    (z7 : PySem.W.nsIn K mainGlobals "enumerate" = some none)
    (z8 : PySem.W.nsIn K mainGlobals "sorted" = some none)
    (z9 : PySem.W.nsIn K mainGlobals "abs" = some none)
    (z10 : PySem.W.nsIn K mainGlobals "range" = some none)
    (z11 : PySem.W.nsIn K mainGlobals "repr" = some none)
    (z12 : PySem.W.nsIn K mainGlobals "max" = some none)
    (z13 : PySem.W.nsIn K mainGlobals "min" = some none)
    (z14 : PySem.W.nsIn K mainGlobals "list" = some none)
    (z15 : PySem.W.nsIn K mainGlobals "dict" = some none)
    (z16 : PySem.W.nsIn K mainGlobals "set" = some none)
    (m0 : PySem.W.nsIn K mainGlobals "MOST_WIDTH" = some (some (.int 16 tk0)))
    (m1 : PySem.W.nsIn K mainGlobals "MOST_MASKS" = some (some (.int 16 tk1)))
    (qc : K.lookup cc = some ⟨qe, qdd, .fields qvs, qsl⟩)
    (qp : qvs[11]? = some (.ref PT))
    (qn : K.lookup PT = none)
    (gB : PySem.W.nsIn K mainGlobals "BankError" = some (some (.ref CB)))
    (gD : PySem.W.nsIn K mainGlobals "Dependent" = some (some (.ref CD)))
    (gW : PySem.W.nsIn K mainGlobals "InvalidWidth" = some (some (.ref CW)))
    (gM : PySem.W.nsIn K mainGlobals "InvalidMap" = some (some (.ref CM)))
    (xT : K.lookup CD = some (excClassObj nm q CD N bs bm true sn sub ab col dd m0x m1x m2x m3x m5x "ValueError.__new__"))
    (hb : PySem.HandSPX.refsVE bm = true)
    (sa : PySem.W.findIn K (.ref CD) "__setattr__" = some (some (.builtin "object.__setattr__")))
    (exC : PySem.W.subIn K (.ref CD) (.type "BaseException") = some true)
    (tyC : PySem.W.typeIn K (.ref CD) = some (.type "type"))
    (kC : PySem.W.keepIn K (.ref CD) = true)
    (noV : PySem.W.findIn K (.ref CD) "value" = some none)
    (iT : PySem.W.findIn K (.ref CD) "__init__" = some (some (.ref e4)))
    (tI : PySem.W.typeIn K (.ref e4) = some (.type "function"))
    (ga : PySem.W.specialIn K (.ref CB) "__getattribute__" = some (some (.builtin "type.__getattribute__")))
    (rd : PySem.W.readsIn K CB (.type "type") = true)
    (fc : PySem.W.findCls K (.ref CB) (.type "type") "__init__" = some (.val (.ref e0)))
    (kp : PySem.W.keepIn K (.ref e0) = true)
    (lI0 : K.lookup e0 = some ⟨oI0, aI0, .func (PySem.W.fnOf "__init__" "BankError.__init__" (defArgs sI0) (defBody sI0) (defScope sI0) (.ref TD) kI0 cI0 mI0 bI0 uI0 tI0), slI0⟩)
    (lT : K.lookup TD = some ⟨xo, xd, .seq #[.none] xn, xsl⟩)
    (uc0 : PySem.W.codeIn K uI0 "BankError.__init__" = true)
    (lI5 : K.lookup e4 = some ⟨oI5, aI5, .func (PySem.W.fnOf "__init__" "Dependent.__init__" (defArgs sI4) (defBody sI4) (defScope sI4) .none kI5 cI5 mI5 bI5 uI5 tI5), slI5⟩)
    (uc5 : PySem.W.codeIn K uI5 "Dependent.__init__" = true)
    (cl : PySem.W.isClsIn K CD = true)
    (gaT : PySem.W.findIn K (.ref CD) "__getattribute__" = some (some (.builtin "BaseException.__getattribute__")))
    (gg : PySem.W.findIn K (.ref CD) "__getattr__" = some none)
    (hd : PySem.W.hasDictIn K CD = true)
    (haT : PySem.W.findIn K (.ref CD) "__class__" = some (some (.builtin "object.__class__")))
    (hn : PySem.W.specialIn K (.builtin "object.__class__") "__get__" = some (some (.builtin "getset_descriptor.__get__")))
    (ht : PySem.W.takesIn K (.builtin "object.__class__") = some true)
    (hm : PySem.W.mroIn K CD (.type "object") = some true)
    (eB : PySem.W.subIn K (.ref CB) (.type "BaseException") = some true)
    (hB : PySem.W.hasDictIn K CB = true)
    (tB : PySem.W.typeIn K (.ref CB) = some (.type "type"))
    (sB : PySem.W.subIn K (.ref CD) (.ref CB) = some true)
    (neW : ((Value.ref CD) == Value.ref CW) = false)
    (neM : ((Value.ref CD) == Value.ref CM) = false)
    (cW : PySem.W.isClsIn K CW = true)
    (cM : PySem.W.isClsIn K CM = true)
    (tW : PySem.W.typeIn K (.ref CW) = some (.type "type"))
    (tM : PySem.W.typeIn K (.ref CM) = some (.type "type"))
    (sW : PySem.W.subIn K (.ref CD) (.ref CW) = some false)
    (sM : PySem.W.subIn K (.ref CD) (.ref CM) = some false) :
    ∃ (fd : FuncData) (cs : List (Addr × Addr)) (sp : Sp), (∀ p ∈ cs, h.get? p.2 = some { cls := .none, data := .fields #[] }) ∧ (∀ p ∈ cs, K.lookup p.2 = none) ∧ (∀ p ∈ cs, PySem.W.CodeHd h p.1 p.2) ∧ (∀ (s : Shared) (u : Value), BindsTo s fd ⟨[u], []⟩ [("_law_script", u)]) ∧
      (∀ (H : Hp) (a : Addr) (ns : List Int), ns.length ≤ 63 → (∀ p ∈ cs, H p.2 = some (.tbl #[])) → SqL K H a (ns.map V.int) → sp [.ref a] H (fun v _ => v = .bl true) fun _ _ _ => False) ∧
      ∀ base : Heap, K.In base → base.Ns mainGlobals mg → (∀ p ∈ cs, TabB base mg p.1 p.2) → G.FnG l.prog w K mg base 10 fa fd ["_law_script"] sp := by
  have e := hfa.symm.trans (PySem.W.mg_of X Gn a25)
  cases e
  have Fiw := fun_mk (st := sIsWidth) liw ciw kiw
  have Aiw : At K mg "is_width" sIsWidth ["value"] fiw _ := ⟨Fiw, PySem.W.mg_of X Gn aiw, Fiw.binds (ps := ["value"]) fun _ _ _ _ _ _ us hl => match us, hl with | [_], _ => rfl⟩
  have Fin_ := fun_mk (st := sIndepN) lin cin kin
  have Ain : At K mg "independent" sIndepN ["known", "vectors"] fin _ := ⟨Fin_, PySem.W.mg_of X Gn ain, Fin_.binds (ps := ["known", "vectors"]) fun _ _ _ _ _ _ us hl => match us, hl with | [_, _], _ => rfl⟩
  have T : Txt K mg := ⟨⟨_, _, Ain⟩, ⟨_, _, Aiw⟩, PySem.W.mg_none_of X Gn z0, PySem.W.mg_none_of X Gn z1, PySem.W.mg_none_of X Gn z2, PySem.W.mg_none_of X Gn z3, PySem.W.mg_none_of X Gn z4, PySem.W.mg_none_of X Gn z5, PySem.W.mg_none_of X Gn z6, PySem.W.mg_none_of X Gn z7, PySem.W.mg_none_of X Gn z8, PySem.W.mg_none_of X Gn z9, PySem.W.mg_none_of X Gn z10, PySem.W.mg_none_of X Gn z11, PySem.W.mg_none_of X Gn z12, PySem.W.mg_none_of X Gn z13, PySem.W.mg_none_of X Gn z14, PySem.W.mg_none_of X Gn z15, PySem.W.mg_none_of X Gn z16, ⟨_, PySem.W.mg_of X Gn m0⟩, ⟨_, PySem.W.mg_of X Gn m1⟩⟩
  have F0 := fun_mk (st := sIsInt) l0 c0 k0
  have A0 : At K mg "is_int" sIsInt ["value"] f0 _ := ⟨F0, PySem.W.mg_of X Gn a0, F0.binds (ps := ["value"]) fun _ _ _ _ _ _ us hl => match us, hl with | [_], _ => rfl⟩
  have F1 := fun_mk (st := sIsAddr) l1 c1 k1
  have A1 : At K mg "is_address" sIsAddr ["width", "value"] f1 _ := ⟨F1, PySem.W.mg_of X Gn a1, F1.binds (ps := ["width", "value"]) fun _ _ _ _ _ _ us hl => match us, hl with | [_, _], _ => rfl⟩
  have F2 := fun_mk (st := sAreAddrs) l2 c2 k2
  have A2 : At K mg "are_addresses" sAreAddrs ["width", "value", "most"] f2 _ := ⟨F2, PySem.W.mg_of X Gn a2, F2.binds (ps := ["width", "value", "most"]) fun _ _ _ _ _ _ us hl => match us, hl with | [_, _, _], _ => rfl⟩
  have F3 := fun_mk (st := sAreMasks) l3 c3 k3
  have A3 : At K mg "are_masks" sAreMasks ["width", "value"] f3 _ := ⟨F3, PySem.W.mg_of X Gn a3, F3.binds (ps := ["width", "value"]) fun _ _ _ _ _ _ us hl => match us, hl with | [_, _], _ => rfl⟩
  have F4 := fun_mk (st := sCkWidth) l4 c4 k4
  have A4 : At K mg "check_width" sCkWidth ["width"] f4 _ := ⟨F4, PySem.W.mg_of X Gn a4, F4.binds (ps := ["width"]) fun _ _ _ _ _ _ us hl => match us, hl with | [_], _ => rfl⟩
  have F5 := fun_mk (st := sCkMap) l5 c5 k5
  have A5 : At K mg "check_map" sCkMap ["width", "masks"] f5 _ := ⟨F5, PySem.W.mg_of X Gn a5, F5.binds (ps := ["width", "masks"]) fun _ _ _ _ _ _ us hl => match us, hl with | [_, _], _ => rfl⟩
  have F6 := fun_mk (st := sRem) l6 c6 k6
  have A6 : At K mg "remainder" sRem ["rows", "vector"] f6 _ := ⟨F6, PySem.W.mg_of X Gn a6, F6.binds (ps := ["rows", "vector"]) fun _ _ _ _ _ _ us hl => match us, hl with | [_, _], _ => rfl⟩
  have F7 := fun_mk (st := sRed) l7 c7 k7
  have A7 : At K mg "reduced" sRed ["vectors"] f7 _ := ⟨F7, PySem.W.mg_of X Gn a7, F7.binds (ps := ["vectors"]) fun _ _ _ _ _ _ us hl => match us, hl with | [_], _ => rfl⟩
  have F8 := fun_mk (st := sPowers) l8 c8 k8
  have A8 : At K mg "powers" sPowers ["width"] f8 _ := ⟨F8, PySem.W.mg_of X Gn a8, F8.binds (ps := ["width"]) fun _ _ _ _ _ _ us hl => match us, hl with | [_], _ => rfl⟩
  have F9 := fun_mk (st := sInd) l9 c9 k9
  have A9 : At K mg "are_independent" sInd ["masks"] f9 _ := ⟨F9, PySem.W.mg_of X Gn a9, F9.binds (ps := ["masks"]) fun _ _ _ _ _ _ us hl => match us, hl with | [_], _ => rfl⟩
  have F10 := fun_mk (st := sComp) l10 c10 k10
  have A10 : At K mg "completed" sComp ["width", "masks"] f10 _ := ⟨F10, PySem.W.mg_of X Gn a10, F10.binds (ps := ["width", "masks"]) fun _ _ _ _ _ _ us hl => match us, hl with | [_, _], _ => rfl⟩
  have F11 := fun_mk (st := sBox) l11 c11 k11
  have A11 : At K mg "_law_box" sBox ["_law_script", "_law_k"] f11 _ := ⟨F11, PySem.W.mg_of X Gn a11, F11.binds (ps := ["_law_script", "_law_k"]) fun _ _ _ _ _ _ us hl => match us, hl with | [_, _], _ => rfl⟩
  have F12 := fun_mk (st := sTake) l12 c12 k12
  have A12 : At K mg "_law_take" sTake ["_law_box_here", "_law_many"] f12 _ := ⟨F12, PySem.W.mg_of X Gn a12, F12.binds (ps := ["_law_box_here", "_law_many"]) fun _ _ _ _ _ _ us hl => match us, hl with | [_, _], _ => rfl⟩
  have F13 := fun_mk (st := sOf) l13 c13 k13
  have A13 : At K mg "_law_of" sOf ["_law_box_here", "_law_some"] f13 _ := ⟨F13, PySem.W.mg_of X Gn a13, F13.binds (ps := ["_law_box_here", "_law_some"]) fun _ _ _ _ _ _ us hl => match us, hl with | [_, _], _ => rfl⟩
  have F14 := fun_mk (st := sOdd) l14 c14 k14
  have A14 : At K mg "_law_odd_ones" sOdd ["_law_number"] f14 _ := ⟨F14, PySem.W.mg_of X Gn a14, F14.binds (ps := ["_law_number"]) fun _ _ _ _ _ _ us hl => match us, hl with | [_], _ => rfl⟩
  have F15 := fun_mk (st := sPlace) l15 c15 k15
  have A15 : At K mg "_law_place" sPlace ["_law_plan_here", "_law_spot"] f15 _ := ⟨F15, PySem.W.mg_of X Gn a15, F15.binds (ps := ["_law_plan_here", "_law_spot"]) fun _ _ _ _ _ _ us hl => match us, hl with | [_, _], _ => rfl⟩
  have F16 := fun_mk (st := sAllOf) l16 c16 k16
  have A16 : At K mg "_law_all_of" sAllOf ["_law_lot_here"] f16 _ := ⟨F16, PySem.W.mg_of X Gn a16, F16.binds (ps := ["_law_lot_here"]) fun _ _ _ _ _ _ us hl => match us, hl with | [_], _ => rfl⟩
  have F17 := fun_mk (st := sRank) l17 c17 k17
  have A17 : At K mg "_law_rank" sRank ["_law_lot_here"] f17 _ := ⟨F17, PySem.W.mg_of X Gn a17, F17.binds (ps := ["_law_lot_here"]) fun _ _ _ _ _ _ us hl => match us, hl with | [_], _ => rfl⟩
  have F18 := fun_mk (st := sLot) l18 c18 k18
  have A18 : At K mg "_law_lot" sLot ["_law_box_here", "_law_size", "_law_most"] f18 _ := ⟨F18, PySem.W.mg_of X Gn a18, F18.binds (ps := ["_law_box_here", "_law_size", "_law_most"]) fun _ _ _ _ _ _ us hl => match us, hl with | [_, _, _], _ => rfl⟩
  have F19 := fun_mk (st := sTold) l19 c19 k19
  have A19 : At K mg "_law_told" sTold ["_law_ask"] f19 _ := ⟨F19, PySem.W.mg_of X Gn a19, F19.binds (ps := ["_law_ask"]) fun _ _ _ _ _ _ us hl => match us, hl with | [_], _ => rfl⟩
  have F20 := fun_mk (st := sFree) l20 c20 k20
  have A20 : At K mg "_law_free_lot" sFree ["_law_box_here", "_law_size", "_law_most"] f20 _ := ⟨F20, PySem.W.mg_of X Gn a20, F20.binds (ps := ["_law_box_here", "_law_size", "_law_most"]) fun _ _ _ _ _ _ us hl => match us, hl with | [_, _, _], _ => rfl⟩
  have F21 := fun_mk (st := sDue) l21 c21 k21
  have A21 : At K mg "_law_due" sDue ["_law_size", "_law_plan_here"] f21 _ := ⟨F21, PySem.W.mg_of X Gn a21, F21.binds (ps := ["_law_size", "_law_plan_here"]) fun _ _ _ _ _ _ us hl => match us, hl with | [_, _], _ => rfl⟩
  have F22 := fun_mk (st := sOwn) l22 c22 k22
  have A22 : At K mg "_law_own_rank" sOwn ["_law_lot_here"] f22 _ := ⟨F22, PySem.W.mg_of X Gn a22, F22.binds (ps := ["_law_lot_here"]) fun _ _ _ _ _ _ us hl => match us, hl with | [_], _ => rfl⟩
  have F23 := fun_mk (st := sWide) l23 c23 k23
  have A23 : At K mg "_law_wide_right" sWide ["_law_box_here"] f23 _ := ⟨F23, PySem.W.mg_of X Gn a23, F23.binds (ps := ["_law_box_here"]) fun _ _ _ _ _ _ us hl => match us, hl with | [_], _ => rfl⟩
  have F24 := fun_mk (st := sRight) l24 c24 k24
  have A24 : At K mg "_law_right" sRight ["_law_box_here"] f24 _ := ⟨F24, PySem.W.mg_of X Gn a24, F24.binds (ps := ["_law_box_here"]) fun _ _ _ _ _ _ us hl => match us, hl with | [_], _ => rfl⟩
  have F25 := fun_mk (st := sLaw) l25 c25 k25
  have EX : Exc K mg CB CD CW CM e0 e4 _ _ :=
    { gB := PySem.W.mg_of X Gn gB, gD := PySem.W.mg_of X Gn gD, gW := PySem.W.mg_of X Gn gW, gM := PySem.W.mg_of X Gn gM, oD := ⟨⟨nm, q, N, bs, bm, sn, sub, ab, col, dd, m0x, m1x, m2x, m3x, m5x, xT, hb⟩, sa, exC, tyC, kC⟩, noV := noV, iD := iT, tI := tI,
      F0 := ⟨oI0, aI0, .ref TD, kI0, cI0, mI0, bI0, uI0, tI0, slI0, rfl, lI0, uc0⟩, b0 := fun s us X0 hl => (fun h1 : us.length = 1 => match us, h1 with | [_], _ => BindsTo.of_defaults rfl (X0 _ _ lT) rfl rfl rfl) (by simpa using hl),
      F4 := ⟨oI5, aI5, .none, kI5, cI5, mI5, bI5, uI5, tI5, slI5, rfl, lI5, uc5⟩, b4 := fun s us _ hl => match us, hl with | [_], _ => .of_eq rfl,
      cB := ⟨ga, rd, fc, kp⟩, kx := ⟨cl, gaT, gg, exC, hd, haT, hn, ht, hm⟩, te := PySem.W.exm_ref eB hB tB sB, nW := G.kit_ref neW cW tW sW, nM := G.kit_ref neM cM tM sM }
  have fr := fresh "_law_right" isr cc PT (tab_in a24 l24 rfl qc qp)
  refine ⟨PySem.W.fnOf "law" "law" (defArgs sLaw) (defBody sLaw) (defScope sLaw) .none kV25 dc25 pm25 an25 cd25 ct25, [(cc, PT)], spLaw K PT, fun p hp => ?_, fun p hp => ?_, fun p hp => ?_, fun s v => .of_eq rfl, fun H a ns hl hH hS => ⟨a, ns, rfl, hS, hl, fun p hp => ?_, fun _ => rfl⟩, fun base _ _ TBs => ?_⟩
  · rw [List.mem_singleton.mp hp]
    exact fr.2
  · rw [List.mem_singleton.mp hp]
    exact qn
  · rw [List.mem_singleton.mp hp]
    exact fr.1
  · rw [List.mem_singleton.mp hp]
    exact TabS.nil (hH (cc, PT) (List.mem_singleton.mpr rfl))
  have TB : TabB base mg cc PT := TBs (cc, PT) (List.mem_singleton.mpr rfl)
  have GC := ok_comp (P := l.prog) (w := w) (base := base) EX A10 A0 A1 A2 A3 A4 A5 A6 A7 A8 A9 T
  have GFr := ok_free (P := l.prog) (w := w) (base := base) A20 A12 A13 A18 A16 T
  have GW := ok_wide A23 A20 A22 A10 GFr GC T
  have GRt := ok_right l24 c24 TB EX A12 A13 A20 A16 A21 A10 A17 A15 A19 A14 GFr GC T
  exact ok_law F25 A24.mg k24 A24.bi A11 A23 GW GRt T
end X1
open PySem PySem.W PyProof.Rows
set_option maxRecDepth 100000 in
set_option maxHeartbeats 0 in
theorem PySem.Challenge.cw_xorbanks_k27_maps_completed_holds : PySem.Challenge.rw_xorbanks_k27_maps_completed.Holds := by
  w_on; o_law; k_head; (case hw => w_witness2)
  k_fill
  refine G.walk_T (l := PySem.Challenge.rw_xorbanks_k27_maps_completed) (n := 63) (k := 10) (x := "_law_script") rfl (by decide) rfl ⟨rfl, by decide, by decide⟩ (fun w h Y => PySem.W.km_in_of Y) ?F
  case F =>
    intro w mg fa h KX G hmg fresh
    refine' X1.all_mk KX G hmg fresh ?isr ?ain ?lin ?cin ?kin ?aiw ?liw ?ciw ?kiw ?a0 ?l0 ?c0 ?k0 ?a1 ?l1 ?c1 ?k1 ?a2 ?l2 ?c2 ?k2 ?a3 ?l3 ?c3 ?k3 ?a4 ?l4 ?c4 ?k4 ?a5 ?l5 ?c5 ?k5 ?a6 ?l6 ?c6 ?k6 ?a7 ?l7 ?c7 ?k7 ?a8 ?l8 ?c8 ?k8 ?a9 ?l9 ?c9 ?k9 ?a10 ?l10 ?c10 ?k10 ?a11 ?l11 ?c11 ?k11 ?a12 ?l12 ?c12 ?k12 ?a13 ?l13 ?c13 ?k13 ?a14 ?l14 ?c14 ?k14 ?a15 ?l15 ?c15 ?k15 ?a16 ?l16 ?c16 ?k16 ?a17 ?l17 ?c17 ?k17 ?a18 ?l18 ?c18 ?k18 ?a19 ?l19 ?c19 ?k19 ?a20 ?l20 ?c20 ?k20 ?a21 ?l21 ?c21 ?k21 ?a22 ?l22 ?c22 ?k22 ?a23 ?l23 ?c23 ?k23 ?a24 ?l24 ?c24 ?k24 ?a25 ?l25 ?c25 ?k25 ?z0 ?z1 ?z2 ?z3 ?z4 ?z5 ?z6 ?z7 ?z8 ?z9 ?z10 ?z11 ?z12 ?z13 ?z14 ?z15 ?z16 ?m0 ?m1 ?qc ?qp ?qn ?gB ?gD ?gW ?gM ?xT ?hb ?sa ?exC ?tyC ?kC ?noV ?iT ?tI ?ga ?rd ?fc ?kp ?lI0 ?lT ?uc0 ?lI5 ?uc5 ?cl ?gaT ?gg ?hd ?haT ?hn ?ht ?hm ?eB ?hB ?tB ?sB ?neW ?neM ?cW ?cM ?tW ?tM ?sW ?sM
    (case isr => first | decide +kernel | rfl)
    (case ain => k_is)
    (case lin => k_is)
    (case cin => k_is)
    (case kin => k_is)
    (case aiw => k_is)
    (case liw => k_is)
    (case ciw => k_is)
    (case kiw => k_is)
    (case a0 => k_is)
    (case l0 => k_is)
    (case c0 => k_is)
    (case k0 => k_is)
    (case a1 => k_is)
    (case l1 => k_is)
    (case c1 => k_is)
    (case k1 => k_is)
    (case a2 => k_is)
    (case l2 => k_is)
    (case c2 => k_is)
    (case k2 => k_is)
    (case a3 => k_is)
    (case l3 => k_is)
    (case c3 => k_is)
    (case k3 => k_is)
    (case a4 => k_is)
    (case l4 => k_is)
    (case c4 => k_is)
    (case k4 => k_is)
    (case a5 => k_is)
    (case l5 => k_is)
    (case c5 => k_is)
    (case k5 => k_is)
    (case a6 => k_is)
    (case l6 => k_is)
    (case c6 => k_is)
    (case k6 => k_is)
    (case a7 => k_is)
    (case l7 => k_is)
    (case c7 => k_is)
    (case k7 => k_is)
    (case a8 => k_is)
    (case l8 => k_is)
    (case c8 => k_is)
    (case k8 => k_is)
    (case a9 => k_is)
    (case l9 => k_is)
    (case c9 => k_is)
    (case k9 => k_is)
    (case a10 => k_is)
    (case l10 => k_is)
    (case c10 => k_is)
    (case k10 => k_is)
    (case a11 => k_is)
    (case l11 => k_is)
    (case c11 => k_is)
    (case k11 => k_is)
    (case a12 => k_is)
    (case l12 => k_is)
    (case c12 => k_is)
    (case k12 => k_is)
    (case a13 => k_is)
    (case l13 => k_is)
    (case c13 => k_is)
    (case k13 => k_is)
    (case a14 => k_is)
    (case l14 => k_is)
    (case c14 => k_is)
    (case k14 => k_is)
    (case a15 => k_is)
    (case l15 => k_is)
    (case c15 => k_is)
    (case k15 => k_is)
    (case a16 => k_is)
    (case l16 => k_is)
    (case c16 => k_is)
    (case k16 => k_is)
    (case a17 => k_is)
    (case l17 => k_is)
    (case c17 => k_is)
    (case k17 => k_is)
    (case a18 => k_is)
    (case l18 => k_is)
    (case c18 => k_is)
    (case k18 => k_is)
    (case a19 => k_is)
    (case l19 => k_is)
    (case c19 => k_is)
    (case k19 => k_is)
    (case a20 => k_is)
    (case l20 => k_is)
    (case c20 => k_is)
    (case k20 => k_is)
    (case a21 => k_is)
    (case l21 => k_is)
    (case c21 => k_is)
    (case k21 => k_is)
    (case a22 => k_is)
    (case l22 => k_is)
    (case c22 => k_is)
    (case k22 => k_is)
    (case a23 => k_is)
    (case l23 => k_is)
    (case c23 => k_is)
    (case k23 => k_is)
    (case a24 => k_is)
    (case l24 => k_is)
    (case c24 => k_is)
    (case k24 => k_is)
    (case a25 => k_is)
    (case l25 => k_is)
    (case c25 => k_is)
    (case k25 => k_is)
    (case z0 => k_is)
    (case z1 => k_is)
    (case z2 => k_is)
    (case z3 => k_is)
    (case z4 => k_is)
    (case z5 => k_is)
    (case z6 => k_is)
    (case z7 => k_is)
    (case z8 => k_is)
    (case z9 => k_is)
    (case z10 => k_is)
    (case z11 => k_is)
    (case z12 => k_is)
    (case z13 => k_is)
    (case z14 => k_is)
    (case z15 => k_is)
    (case z16 => k_is)
    (case m0 => k_is)
    (case m1 => k_is)
    (case qc => k_is)
    (case qp => rfl)
    (case qn => rfl)
    (case gB => k_is)
    (case gD => k_is)
    (case gW => k_is)
    (case gM => k_is)
    (case xT => k_is)
    (case hb => rfl)
    (case sa => k_is)
    (case exC => k_is)
    (case tyC => k_is)
    (case kC => k_is)
    (case noV => k_is)
    (case iT => k_is)
    (case tI => k_is)
    (case ga => k_is)
    (case rd => k_is)
    (case fc => k_is)
    (case kp => k_is)
    (case lI0 => k_is)
    (case lT => k_is)
    (case uc0 => k_is)
    (case lI5 => k_is)
    (case uc5 => k_is)
    (case cl => k_is)
    (case gaT => k_is)
    (case gg => k_is)
    (case hd => k_is)
    (case haT => k_is)
    (case hn => k_is)
    (case ht => k_is)
    (case hm => k_is)
    (case eB => k_is)
    (case hB => k_is)
    (case tB => k_is)
    (case sB => k_is)
    (case neW => rfl)
    (case neM => rfl)
    (case cW => k_is)
    (case cM => k_is)
    (case tW => k_is)
    (case tM => k_is)
    (case sW => k_is)
    (case sM => k_is)
    all_goals exact Value.none
