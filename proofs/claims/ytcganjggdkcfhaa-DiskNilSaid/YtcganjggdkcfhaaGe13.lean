/-
  Evaluation of closed calls: code, calls, rounds.
-/
import Derived.Test.YtcganjggdkcfhaaGe12
import Derived.RangeFuncLeaves
set_option linter.unusedVariables false
set_option linter.unusedSimpArgs false
namespace Go.Ge

inductive AX where
  | normal
  | exit (id : Nat)
  | goto (l : Nat)
  | ret

abbrev Drawn := Evs → Array Oper → Nat → T Value → AS → Option (T Value × AS)

def loopF (f : Fs → AS → Option (AX × Fs × AS)) : Nat → Fs → AS → Option (AX × Fs × AS)
  | 0, _, _ => none
  | m + 1, R, S =>
    match f R S with
    | some (.normal, R', S') => loopF f m R' S'
    | x => x
def scopeF (f : Code → Fs → AS → Option (AX × Fs × AS)) (body : Code) : Nat → Code → Fs → AS → Option (AX × Fs × AS)
  | 0, _, _, _ => none
  | m + 1, c, R, S =>
    match f c R S with
    | some (.goto l, R', S') => match findLabel body l with
      | some rest => scopeF f body m rest R' S'
      | none => some (.goto l, R', S')
    | x => x

/-- a loop's record -/
def enterF (n : Nat) (rd : Option Nat) (ps : Array Tmp) (assign body : Code) (F : Fs) (S : AS) : Option (Nat × Fs × AS) :=
  match rd with
  | none => if S.nx + 1 < 65536 then
      some (S.nx + 1, ⟨F.R, S.nx :: F.D⟩, ⟨(S.h.set S.nx (some .mark)).set (S.nx + 1) (some (.loop { state := .ready, pending := none, tmps := F.R, n, params := ps, assign, body, defers := S.nx })), S.nx + 2⟩)
    else none
  | some l => match S.h.get l with
    | some (.loop lo) => if S.nx < 65536 then
        some (S.nx, F, ⟨S.h.set S.nx (some (.loop { state := .ready, pending := none, tmps := F.R, n, params := ps, assign, body, defers := lo.defers })), S.nx + 1⟩)
      else none
    | _ => none
def endF (l : Nat) (S : AS) : Option (Option Code × AS) :=
  match S.h.get l with
  | some (.loop lo) => if lo.state = .busy then none else some (lo.pending, ⟨S.h.set l (some (.loop { lo with state := .exhausted })), S.nx⟩)
  | _ => none

def codeF (P : Program) (dr : Drawn) (E : Evs) (n : Nat) (rd : Option Nat) : Nat → Code → Fs → AS → Option (AX × Fs × AS)
  | 0, _, _, _ => none
  | k + 1, c, F, S =>
    match c with
    | .skip => some (.normal, F, S)
    | .label _ => some (.normal, F, S)
    | .region _ ops false => match seqOps P E ops n (List.range ops.size) F.R S with
      | some (R', S') => some (.normal, ⟨R', F.D⟩, S')
      | none => none
    | .region _ ops true => match dr E ops n F.R S with
      | some (R', S') => some (.normal, ⟨R', F.D⟩, S')
      | none => none
    | .seq a b => match codeF P dr E n rd k a F S with
      | some (.normal, F', S') => codeF P dr E n rd k b F' S'
      | x => x
    | .cond c a b => match aev F.R S.h c with
      | some (.bool true) => codeF P dr E n rd k a F S
      | some (.bool false) => codeF P dr E n rd k b F S
      | _ => none
    | .block id b => match codeF P dr E n rd k b F S with
      | some (.exit id', F', S') => if id' = id then some (.normal, F', S') else some (.exit id', F', S')
      | x => x
    | .loop b => loopF (codeF P dr E n rd k b) 100000 F S
    | .exit id => some (.exit id, F, S)
    | .goto l => some (.goto l, F, S)
    | .ret => some (.ret, F, S)
    | .scope b => scopeF (codeF P dr E n rd k) b 100000 b F S
    | .rangeFunc g ps assign body =>
      match aev F.R S.h g with
      | some (.func (.func f) first captured) =>
        if enterOk P f = true then
          match enterF n rd ps assign body F S with
          | some (l, F₁, S₁) =>
            match E.call f (first.toList ++ [.func (.yield l) #[] #[]] ++ captured.toList) S₁ with
            | some (_, S₂) => match endF l S₂ with
              | some (none, S₃) => some (.normal, F₁, S₃)
              | some (some c, S₃) => codeF P dr E n rd k c F₁ S₃
              | none => none
            | none => none
          | none => none
        else none
      | _ => none
    | .refuse _ => none

def resF (P : Program) (h : Heap) (R : T Value) : List ResultVar → Option (List Value)
  | [] => some []
  | .tmp t :: rs => match rget R t, resF P h R rs with
    | some v, some vs => some (v :: vs)
    | _, _ => none
  | .cell a t :: rs => match rget R a with
    | some x => match aLoad P h t x, resF P h R rs with
      | some v, some vs => some (v :: vs)
      | _, _ => none
    | none => none
def argsR : List Value → Nat → T Value → T Value
  | [], _, R => R
  | v :: vs, i, R => argsR vs (i + 1) (T.put 10 R i (some v))
/-- the marks are taken -/
def leaveF : List Nat → AS → Option AS
  | [], S => some S
  | d :: ds, S => match S.h.get d with
    | some .mark => leaveF ds ⟨S.h.set d (some .spent), S.nx⟩
    | _ => none

def callF (P : Program) (dr : Drawn) (E : Evs) (f : FuncId) (args : List Value) (S : AS) : Option (Value × AS) :=
  match P.funcs[f]? with
  | some fn => match fn.body with
    | some c =>
      if args.length ≤ 1024 then
        match codeF P dr E (max args.length fn.ntmps) none 200 c ⟨argsR args 0 .leaf, []⟩ S with
        | some (.normal, F, S') | some (.ret, F, S') => match leaveF F.D S' with
          | some S'' => match resF P S''.h F.R fn.results.toList with
            | some [v] => some (v, S'')
            | some vs => some (.tuple ⟨vs⟩, S'')
            | none => none
          | none => none
        | _ => none
      else none
    | none => none
  | none => none

/-- the values of a round -/
def roundR (n : Nat) : List Tmp → List Value → T Value → Option (T Value)
  | [], [], R => some R
  | t :: ts, v :: vs, R => match rput R n (some t) v with
    | some R' => roundR n ts vs R'
    | none => none
  | _, _, _ => none
def jumpOf : AX → Option Code
  | .normal => none
  | .ret => some .ret
  | .exit id => some (.exit id)
  | .goto l => some (.goto l)
def roundF (P : Program) (dr : Drawn) (E : Evs) (l : Nat) (args : List Value) (S : AS) : Option (Value × AS) :=
  match S.h.get l with
  | some (.loop lo) => match roundR lo.n lo.params.toList args lo.tmps with
    | some R => match codeF P dr E lo.n (some l) 200 lo.assign ⟨R, []⟩ S with
      | some (.normal, F₁, S₁) => match S₁.h.get l with
        | some (.loop lo₁) => if lo₁.state = .ready then
            match codeF P dr E lo.n (some l) 200 lo.body F₁ ⟨S₁.h.set l (some (.loop { lo₁ with state := .busy })), S₁.nx⟩ with
            | some (x, F₂, S₂) => match S₂.h.get l with
              | some (.loop lo₂) => some (.bool (jumpOf x).isNone, ⟨S₂.h.set l (some (.loop { lo₂ with state := if (jumpOf x).isNone then .ready else .done, pending := jumpOf x })), S₂.nx⟩)
              | _ => none
            | none => none
          else none
        | _ => none
      | _ => none
    | none => none
  | _ => none

def lev (P : Program) (dr : Drawn) : Nat → Evs
  | 0 => ⟨fun _ _ _ => none, fun _ _ _ => none⟩
  | k + 1 => ⟨callF P dr (lev P dr k), roundF P dr (lev P dr k)⟩
end Go.Ge
